/- RulesLast: for every input the law returns true, and its arguments read as they did: the row, and its card, tied to the program's text. Conditions: none beyond the card's own. -/
import Derived.Test.YtjlaihekocjggaaGreatDoorKRLs
import Derived.Test.YtjlaihekocjggaaGreatDoorKMU
import Derived.Test.YtjlaihekocjggaaGreatDoorTie
import Derived.Test.YtjlaihekocjggaaGreatDoorCards
import Derived.Test.YtjlaihekocjggaaGreatDoorKRLsF
import Derived.Test.YtjlaihekocjggaaGreatDoorKRLsG
namespace Go.Proofs.YtjlaihekocjggaaGreatDoor.rulesLastRow
open Go.ChangeShapes Go.WideShapes Go.ChangeAt Go.RowKit Go.Joins Go.ChangeMaps
theorem tx_of (s:ByteArray):∃ l:Str,(⟨l.toArray⟩:ByteArray) = s ∧ l.length = s.size:=⟨s.data.toList,Lib.mk_data s,by rw [Array.length_toList];rfl⟩
theorem own:ownKnob Tryz.prog.godebug = none:=by kernel_rfl
set_option maxRecDepth 100000 in
theorem lifted (os:Os) (started:os.Started) (H:Type) (enc:TypeId × Value → H) :
  ReturnsInHanded {} Tryz.checked os 10 .any (fun w args=>(Rows.rulesLastSpec.pre enc Tryz.prog Tryz.f10 Rows.rulesLastRow.domain false w args ∧ laidMetH Tryz.prog Rows.rulesLastRow.laid w) ∧ sizedMet enc Tryz.prog Tryz.f10 (OpenSpec.ofChange Rows.rulesLastSpec) false w args)
   (Rows.rulesLastSpec.post enc Tryz.prog Tryz.f10 false true false false):=by
 refine lift_env (fun _ _ _ hh h=>h.of_heap hh) (C:=Tryz.checked) (X:=fun w _=>laidMetH Tryz.prog Rows.rulesLastRow.laid w) own started (by kernel_rfl) Tryz.func10
  (ChangeSpec.witness_shaped (enc:=enc) (C:=Tryz.checked) (os:=os) (X:=fun w _=>laidMetH Tryz.prog Rows.rulesLastRow.laid w) false (wL Tryz.prog os 376 (.pointer (some ⟨9,106,none⟩)) Rows.rulesLastRow.laid) #[.string ⟨#[]⟩,.string ⟨#[]⟩] 8 (wL_os _ _ _ _ _)
   (World.shaped_of_ZipB (by kernel_rfl) (by kernel_rfl)) (by kernel_rfl) (by kernel_rfl) (by kernel_rfl)
   (wL_met _ (by kernel_rfl) (by kernel_rfl) (by kernel_rfl))) ?_
 intro W base args ds gs before hval0 hW hsh hL
 have hval:∀ (j:Nat) t v,Tryz.f10.params[j]? = some t → args[j]? = some v → Value.okWide Tryz.prog W .any base t v:=hval0
 have hW':=hW
 obtain ⟨p,q,hA0,hV,rfl,hfz,hnd⟩:=hW
 have hA:DataW.TrodAll enc Tryz.prog W 0 (fun _=>true) true Tryz.f10.params.toList args.toList ds p:=hA0
 rw [Tryz.params10] at hA hval
 obtain ⟨v0,vs0,d0,ds0,p0,q0,hargs,rfl,rfl,h0,r0⟩:=trodAll_cons hA
 obtain ⟨v1,vs1,d1,ds1,p1,q1,rfl,rfl,rfl,h1,r1⟩:=trodAll_cons r0
 obtain ⟨rfl,rfl,rfl⟩:=trodAll_nil r1
 obtain rfl:args = #[v0,v1]:=by cases args;simp_all
 obtain ⟨rfl,rfl⟩:=trodVars_none hV
 obtain ⟨s0,rfl,rfl,rfl,w0⟩:=open_string Tryz.underlying9 (hval 0 9 v0 rfl rfl) h0
 obtain ⟨l0,rfl,ln0⟩:=tx_of s0
 have b0:l0.length ≤ 9223372036854775807:=by rw [ln0];unfold maxLen at w0;omega
 obtain ⟨s1,rfl,rfl,rfl,w1⟩:=open_string Tryz.underlying9 (hval 1 9 v1 rfl rfl) h1
 obtain ⟨l1,rfl,ln1⟩:=tx_of s1
 have b1:l1.length ≤ 9223372036854775807:=by rw [ln1];unfold maxLen at w1;omega
 clear hA0 hval0
 simp only [List.append_nil] at hW'
 refine (last_row l0 l1 W b0 b1   (env_ty hsh hL)).mono fun e W' ⟨he,hg⟩=>?_
 subst he
 exact ⟨_,rfl,_,_,_,[],[],[],hW',trodAll_mk1 (shut_bool Tryz.underlying4 _),(trodAll_cons_mk (shut_string Tryz.underlying9 w0) (trodAll_cons_mk (shut_string Tryz.underlying9 w1) trodAll_mk0)),rfl,hg.frame _,fun h=>by cases h⟩
theorem holds:Rows.RulesLastSaid:=
 OpenClaim.holds_of_wide 10 Tryz.f10 rfl rfl rfl rfl rfl rfl rfl ⟨rfl,rfl,rfl,rfl,rfl⟩ rfl rfl rfl rfl rfl (by kernel_rfl) Tryz.func10 facts inst wraps (fun os started H enc _=>lifted os started H enc)
end Go.Proofs.YtjlaihekocjggaaGreatDoor.rulesLastRow
namespace Go.Proofs.YtjlaihekocjggaaGreatDoor
open Go
theorem rulesLast_card:Rows.RulesLastCardSaid:=
 Claim7.holds_tied_plain_at .later [] [.data, .data, .data, .data, .handle, .sentinel, .sentinel, .pinned] true (true, "c2f8f3a120d21fc72ee5bbdb816f253da4ca57c64ac4b420b709a232c53e2224") true rulesLastRow.holds (fun _ h => by cases h) rulesLastRow.text (fun _ h => by cases h) rulesLast_row_tie rfl ⟨rfl, rfl⟩ (by kernel_rfl) rfl
  (fun f fn hf hfn=>by
   obtain rfl : f = 10 := Option.some.inj ((show Tryz.prog.funcNamed "spillway/spillwaylaw10.RulesLast" = some 10 by kernel_rfl).symm.trans hf) |>.symm
   obtain rfl:fn = Tryz.f10:=(Option.some.inj (Tryz.func10.symm.trans hfn)).symm
   exact ⟨rulesLastRow.looks,fun j t ht=>by
    rw [Tryz.params10] at ht
    have hm:t ∈ [9,9]:=by simpa using Array.mem_of_getElem? ht
    have hall:([9,9].all fun u=>!Tryz.prog.wantsStandIn u) = true:=by kernel_rfl
    exact (show Tryz.prog.wantsStandIn t = false by simpa using List.all_eq_true.1 hall t hm)⟩)
  rulesLastRow.goes
end Go.Proofs.YtjlaihekocjggaaGreatDoor
