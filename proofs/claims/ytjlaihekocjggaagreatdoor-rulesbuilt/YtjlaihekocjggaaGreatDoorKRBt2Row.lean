/- RulesBuilt: for every input the law returns true, and its arguments read as they did: the row, and its card, tied to the program's text. Conditions: none beyond the card's own. -/
import Derived.Test.YtjlaihekocjggaaGreatDoorKRBt
import Derived.Test.YtjlaihekocjggaaGreatDoorKMU
import Derived.Test.YtjlaihekocjggaaGreatDoorTie
import Derived.Test.YtjlaihekocjggaaGreatDoorCards
import Derived.Test.YtjlaihekocjggaaGreatDoorKRBt2F
namespace Go.Proofs.YtjlaihekocjggaaGreatDoor.rulesBuiltRow
open Go.ChangeShapes Go.WideShapes Go.ChangeAt Go.RowKit Go.Joins Go.ChangeMaps
theorem laidOut:laidOutB Tryz.prog = true:=by kernel_rfl
theorem tx_of (s:ByteArray):∃ l:Str,(⟨l.toArray⟩:ByteArray) = s ∧ l.length = s.size:=⟨s.data.toList,Lib.mk_data s,by rw [Array.length_toList];rfl⟩
theorem own:ownKnob Tryz.prog.godebug = none:=by kernel_rfl
set_option maxRecDepth 100000 in
theorem lifted (os:Os) (started:os.Started) (H:Type) (enc:TypeId × Value → H) :
  ReturnsInHanded {} Tryz.checked os 9 .any (fun w args=>(Rows.rulesBuiltSpec.pre enc Tryz.prog Tryz.f9 Rows.rulesBuiltRow.domain false w args ∧ laidMetH Tryz.prog Rows.rulesBuiltRow.laid w) ∧ sizedMet enc Tryz.prog Tryz.f9 (OpenSpec.ofChange Rows.rulesBuiltSpec) false w args)
   (Rows.rulesBuiltSpec.post enc Tryz.prog Tryz.f9 false true false false):=by
 refine lift_env (fun _ _ _ hh h=>h.of_heap hh) (C:=Tryz.checked) (X:=fun w _=>laidMetH Tryz.prog Rows.rulesBuiltRow.laid w) own started (by kernel_rfl) Tryz.func9
  (ChangeSpec.witness_shaped (enc:=enc) (C:=Tryz.checked) (os:=os) (X:=fun w _=>laidMetH Tryz.prog Rows.rulesBuiltRow.laid w) false (wL Tryz.prog os 376 (.pointer (some ⟨9,106,none⟩)) Rows.rulesBuiltRow.laid) #[.agg #[.int .u8 0,.int .u8 0,.int .u8 0],.agg #[.int .u8 0,.int .u8 0,.int .u8 0],.string ⟨#[]⟩] 8 (wL_os _ _ _ _ _)
   (World.shaped_of_ZipB (by kernel_rfl) (by kernel_rfl)) (by kernel_rfl) (by kernel_rfl) (by kernel_rfl)
   (wL_met _ (by kernel_rfl) (by kernel_rfl) (by kernel_rfl))) ?_
 intro W base args ds gs before hval0 hW hsh hL
 have hval:∀ (j:Nat) t v,Tryz.f9.params[j]? = some t → args[j]? = some v → Value.okWide Tryz.prog W .any base t v:=hval0
 have hW':=hW
 obtain ⟨p,q,hA0,hV,rfl,hfz,hnd⟩:=hW
 have hA:DataW.TrodAll enc Tryz.prog W 0 (fun _=>true) true Tryz.f9.params.toList args.toList ds p:=hA0
 rw [Tryz.params9] at hA hval
 obtain ⟨v0,vs0,d0,ds0,p0,q0,hargs,rfl,rfl,h0,r0⟩:=trodAll_cons hA
 obtain ⟨v1,vs1,d1,ds1,p1,q1,rfl,rfl,rfl,h1,r1⟩:=trodAll_cons r0
 obtain ⟨v2,vs2,d2,ds2,p2,q2,rfl,rfl,rfl,h2,r2⟩:=trodAll_cons r1
 obtain ⟨rfl,rfl,rfl⟩:=trodAll_nil r2
 obtain rfl:args = #[v0,v1,v2]:=by cases args;simp_all
 obtain ⟨rfl,rfl⟩:=trodVars_none hV
 have k0:=h0
 have lt0:∀ x ∈ p0,x.block < W.heap.size:=by obtain ⟨m,hm⟩:=k0;exact DataW.trod_lt m _ _ _ hm
 obtain ⟨f0,rfl⟩:=Bt.ar3_of (hval 0 54 v0 rfl rfl) h0
 have k1:=h1
 have lt1:∀ x ∈ p1,x.block < W.heap.size:=by obtain ⟨m,hm⟩:=k1;exact DataW.trod_lt m _ _ _ hm
 obtain ⟨f1,rfl⟩:=Bt.ar3_of (hval 1 54 v1 rfl rfl) h1
 obtain ⟨s2,rfl,rfl,rfl,w2⟩:=open_string Tryz.underlying9 (hval 2 9 v2 rfl rfl) h2
 obtain ⟨l2,rfl,ln2⟩:=tx_of s2
 have b2:l2.length ≤ 9223372036854775807:=by rw [ln2];unfold maxLen at w2;omega
 clear hA0 hval0
 simp only [List.append_nil] at hW'
 refine (Bt.built_row f0 f1 l2 W b2   (env_ty hsh hL)).mono fun e W' ⟨he,hg⟩=>?_
 subst he
 exact ⟨_,rfl,_,_,_,[],_,[],hW',trodAll_mk1 (shut_bool Tryz.underlying4 _),(trodAll_cons_mk (Below.trod laidOut (by kernel_rfl) (of_decide_eq_true (by kernel_rfl)) k0 hg lt0) (trodAll_cons_mk (Below.trod laidOut (by kernel_rfl) (of_decide_eq_true (by kernel_rfl)) k1 hg lt1) (trodAll_cons_mk (shut_string Tryz.underlying9 w2) trodAll_mk0))),rfl,hg.frame _,fun h=>by cases h⟩
theorem holds:Rows.RulesBuiltSaid:=
 OpenClaim.holds_of_wide 9 Tryz.f9 rfl rfl rfl rfl rfl rfl rfl ⟨rfl,rfl,rfl,rfl,rfl⟩ rfl rfl rfl rfl rfl (by kernel_rfl) Tryz.func9 facts inst wraps (fun os started H enc _=>lifted os started H enc)
end Go.Proofs.YtjlaihekocjggaaGreatDoor.rulesBuiltRow
namespace Go.Proofs.YtjlaihekocjggaaGreatDoor
open Go
theorem rulesBuilt_card:Rows.RulesBuiltCardSaid:=
 Claim7.holds_tied_plain_at .later [] [.data, .data, .data, .data, .handle, .sentinel, .sentinel, .pinned] true (true, "c2f8f3a120d21fc72ee5bbdb816f253da4ca57c64ac4b420b709a232c53e2224") true rulesBuiltRow.holds (fun _ h => by cases h) rulesBuiltRow.text (fun _ h => by cases h) rulesBuilt_row_tie rfl ⟨rfl, rfl⟩ (by kernel_rfl) rfl
  (fun f fn hf hfn=>by
   obtain rfl : f = 9 := Option.some.inj ((show Tryz.prog.funcNamed "spillway/spillwaylaw10.RulesBuilt" = some 9 by kernel_rfl).symm.trans hf) |>.symm
   obtain rfl:fn = Tryz.f9:=(Option.some.inj (Tryz.func9.symm.trans hfn)).symm
   exact ⟨rulesBuiltRow.looks,fun j t ht=>by
    rw [Tryz.params9] at ht
    have hm:t ∈ [54,54,9]:=by simpa using Array.mem_of_getElem? ht
    have hall:([54,54,9].all fun u=>!Tryz.prog.wantsStandIn u) = true:=by kernel_rfl
    exact (show Tryz.prog.wantsStandIn t = false by simpa using List.all_eq_true.1 hall t hm)⟩)
  rulesBuiltRow.goes
end Go.Proofs.YtjlaihekocjggaaGreatDoor
