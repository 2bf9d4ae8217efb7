/- RulesBounds: for every input the law returns true, and its arguments read as they did: the row, and its card, tied to the program's text. Conditions: none beyond the card's own. -/
import Derived.Test.YtjlaihekocjggaaGreatDoorKRBd
import Derived.Test.YtjlaihekocjggaaGreatDoorKMU
import Derived.Test.YtjlaihekocjggaaGreatDoorTie
import Derived.Test.YtjlaihekocjggaaGreatDoorCards
import Derived.Test.YtjlaihekocjggaaGreatDoorKRBdF
import Derived.Test.YtjlaihekocjggaaGreatDoorKRBdG
namespace Go.Proofs.YtjlaihekocjggaaGreatDoor.rulesBoundsRow
open Go.ChangeShapes Go.WideShapes Go.ChangeAt Go.RowKit Go.Joins Go.ChangeMaps
theorem own:ownKnob Tryz.prog.godebug = none:=by kernel_rfl
set_option maxRecDepth 100000 in
theorem lifted (os:Os) (started:os.Started) (H:Type) (enc:TypeId × Value → H) :
  ReturnsInHanded {} Tryz.checked os 7 .any (fun w args=>(Rows.rulesBoundsSpec.pre enc Tryz.prog Tryz.f7 Rows.rulesBoundsRow.domain false w args ∧ laidMetH Tryz.prog Rows.rulesBoundsRow.laid w) ∧ sizedMet enc Tryz.prog Tryz.f7 (OpenSpec.ofChange Rows.rulesBoundsSpec) false w args)
   (Rows.rulesBoundsSpec.post enc Tryz.prog Tryz.f7 false true false false):=by
 refine lift_env (fun _ _ _ hh h=>h.of_heap hh) (C:=Tryz.checked) (X:=fun w _=>laidMetH Tryz.prog Rows.rulesBoundsRow.laid w) own started (by kernel_rfl) Tryz.func7
  (ChangeSpec.witness_shaped (enc:=enc) (C:=Tryz.checked) (os:=os) (X:=fun w _=>laidMetH Tryz.prog Rows.rulesBoundsRow.laid w) false (wL Tryz.prog os 376 (.pointer (some ⟨9,106,none⟩)) Rows.rulesBoundsRow.laid) #[.int .u8 0,.int .u8 0] 8 (wL_os _ _ _ _ _)
   (World.shaped_of_ZipB (by kernel_rfl) (by kernel_rfl)) (by kernel_rfl) (by kernel_rfl) (by kernel_rfl)
   (wL_met _ (by kernel_rfl) (by kernel_rfl) (by kernel_rfl))) ?_
 intro W base args ds gs before hval0 hW hsh hL
 have hval:∀ (j:Nat) t v,Tryz.f7.params[j]? = some t → args[j]? = some v → Value.okWide Tryz.prog W .any base t v:=hval0
 have hW':=hW
 obtain ⟨p,q,hA0,hV,rfl,hfz,hnd⟩:=hW
 have hA:DataW.TrodAll enc Tryz.prog W 0 (fun _=>true) true Tryz.f7.params.toList args.toList ds p:=hA0
 rw [Tryz.params7] at hA hval
 obtain ⟨v0,vs0,d0,ds0,p0,q0,hargs,rfl,rfl,h0,r0⟩:=trodAll_cons hA
 obtain ⟨v1,vs1,d1,ds1,p1,q1,rfl,rfl,rfl,h1,r1⟩:=trodAll_cons r0
 obtain ⟨rfl,rfl,rfl⟩:=trodAll_nil r1
 obtain rfl:args = #[v0,v1]:=by cases args;simp_all
 obtain ⟨rfl,rfl⟩:=trodVars_none hV
 obtain ⟨n0,rfl,rfl,rfl,w0⟩:=open_int Tryz.underlying5 (hval 0 5 v0 rfl rfl) h0
 have b0:0 ≤ n0 ∧ n0 ≤ 255:=by simpa [Lit.wf,IntKind.min,IntKind.max,IntKind.signed,IntKind.bits] using w0
 obtain ⟨N0,rfl⟩:∃ N:Nat,n0 = N:=⟨n0.toNat,by omega⟩
 obtain ⟨n1,rfl,rfl,rfl,w1⟩:=open_int Tryz.underlying5 (hval 1 5 v1 rfl rfl) h1
 have b1:0 ≤ n1 ∧ n1 ≤ 255:=by simpa [Lit.wf,IntKind.min,IntKind.max,IntKind.signed,IntKind.bits] using w1
 obtain ⟨N1,rfl⟩:∃ N:Nat,n1 = N:=⟨n1.toNat,by omega⟩
 clear hA0 hval0
 simp only [List.append_nil] at hW'
 refine (bounds_row N0 N1 W (by omega) (by omega)   (env_ty hsh hL)).mono fun e W' ⟨he,hg⟩=>?_
 subst he
 exact ⟨_,rfl,_,_,_,[],[],[],hW',trodAll_mk1 (shut_bool Tryz.underlying4 _),(trodAll_cons_mk (shut_int Tryz.underlying5 w0) (trodAll_cons_mk (shut_int Tryz.underlying5 w1) trodAll_mk0)),rfl,hg.frame _,fun h=>by cases h⟩
theorem holds:Rows.RulesBoundsSaid:=
 OpenClaim.holds_of_wide 7 Tryz.f7 rfl rfl rfl rfl rfl rfl rfl ⟨rfl,rfl,rfl,rfl,rfl⟩ rfl rfl rfl rfl rfl (by kernel_rfl) Tryz.func7 facts inst wraps (fun os started H enc _=>lifted os started H enc)
end Go.Proofs.YtjlaihekocjggaaGreatDoor.rulesBoundsRow
namespace Go.Proofs.YtjlaihekocjggaaGreatDoor
open Go
theorem rulesBounds_card:Rows.RulesBoundsCardSaid:=
 Claim7.holds_tied_plain_at .later [] [.data, .data, .data, .data, .handle, .sentinel, .sentinel, .pinned] true (true, "c2f8f3a120d21fc72ee5bbdb816f253da4ca57c64ac4b420b709a232c53e2224") true rulesBoundsRow.holds (fun _ h => by cases h) rulesBoundsRow.text (fun _ h => by cases h) rulesBounds_row_tie rfl ⟨rfl, rfl⟩ (by kernel_rfl) rfl
  (fun f fn hf hfn=>by
   obtain rfl : f = 7 := Option.some.inj ((show Tryz.prog.funcNamed "spillway/spillwaylaw10.RulesBounds" = some 7 by kernel_rfl).symm.trans hf) |>.symm
   obtain rfl:fn = Tryz.f7:=(Option.some.inj (Tryz.func7.symm.trans hfn)).symm
   exact ⟨rulesBoundsRow.looks,fun j t ht=>by
    rw [Tryz.params7] at ht
    have hm:t ∈ [5,5]:=by simpa using Array.mem_of_getElem? ht
    have hall:([5,5].all fun u=>!Tryz.prog.wantsStandIn u) = true:=by kernel_rfl
    exact (show Tryz.prog.wantsStandIn t = false by simpa using List.all_eq_true.1 hall t hm)⟩)
  rulesBoundsRow.goes
end Go.Proofs.YtjlaihekocjggaaGreatDoor
