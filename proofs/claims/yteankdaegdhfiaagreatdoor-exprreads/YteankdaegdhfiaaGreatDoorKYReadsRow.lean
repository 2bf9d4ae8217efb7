/- ExprReads: for every input the law returns true, and its arguments read as they did: the row, and its card, tied to the program's text. Conditions: none beyond the card's own. -/
import Derived.Test.YteankdaegdhfiaaGreatDoorTie
import Derived.Test.YteankdaegdhfiaaGreatDoorCards
import Derived.Test.YteankdaegdhfiaaGreatDoorKYReads
import Derived.Test.YteankdaegdhfiaaGreatDoorKMU
import Derived.Test.YteankdaegdhfiaaGreatDoorKTTok
namespace Go.Proofs.YteankdaegdhfiaaGreatDoor.exprReadsRow
open Go.ChangeShapes Go.WideShapes Go.ChangeAt Go.RowKit Go.Joins Go.ChangeMaps
theorem own : ownKnob Tryz.prog.godebug = none := by kernel_rfl
set_option maxRecDepth 100000 in
theorem lifted (os : Os) (started : os.Started) (H : Type) (enc : TypeId × Value → H) :
  ReturnsInHanded {} Tryz.checked os 4 .any (fun w args => (Rows.exprReadsSpec.pre enc Tryz.prog Tryz.f4 Rows.exprReadsRow.domain false w args ∧ laidMetH Tryz.prog Rows.exprReadsRow.laid w) ∧ sizedMet enc Tryz.prog Tryz.f4 (OpenSpec.ofChange Rows.exprReadsSpec) false w args)
   (Rows.exprReadsSpec.post enc Tryz.prog Tryz.f4 false true false false) := by
 refine lift_env (fun _ _ _ hh h => h.of_heap hh) (C := Tryz.checked) (X := fun w _ => laidMetH Tryz.prog Rows.exprReadsRow.laid w) own started (by kernel_rfl) Tryz.func4
  (ChangeSpec.witness_shaped (enc := enc) (C := Tryz.checked) (os := os) (X := fun w _ => laidMetH Tryz.prog Rows.exprReadsRow.laid w) false (World.laidAll Tryz.prog os Rows.exprReadsRow.laid) #[.slice none 0 0] 8 (World.laidAll_os _ _ _)
   (World.shaped_of_ZipB (by kernel_rfl) (by kernel_rfl)) (by kernel_rfl) (by kernel_rfl) (by kernel_rfl)
   (by rw [MakeChecks.laidMetH_plain _ _ _ (by kernel_rfl)]; exact laidMet_laidAll _ (by kernel_rfl) (by kernel_rfl))) ?_
 intro W base args ds gs before hval0 hW hsh hL
 have hval : ∀ (j : Nat) t v, Tryz.f4.params[j]? = some t → args[j]? = some v → Value.okWide Tryz.prog W .any base t v := hval0
 have hW' := hW
 obtain ⟨p, q, hA0, hV, rfl, hfz, hnd⟩ := hW
 have hA : DataW.TrodAll enc Tryz.prog W 0 (fun _ => true) true Tryz.f4.params.toList args.toList ds p := hA0
 rw [Tryz.params4] at hA hval
 obtain ⟨v0, vs0, d0, ds0, p0, q0, hargs, rfl, rfl, h0, r0⟩ := trodAll_cons hA
 obtain ⟨rfl, rfl, rfl⟩ := trodAll_nil r0
 obtain rfl : args = #[v0] := by cases args; simp_all
 obtain ⟨rfl, rfl⟩ := trodVars_none hV
 have k0 := h0
 have lt0 : ∀ x ∈ p0, x.block < W.heap.size := by obtain ⟨m, hm⟩ := k0; exact DataW.trod_lt m _ _ _ hm
 obtain ⟨xa0, len0, cap0, rfl⟩ := okWide_slice Tryz.underlying37 (hval 0 37 v0 rfl rfl)
 obtain ⟨fu0, hfu0⟩ := h0
 obtain ⟨ao0, ln0, cp0, l0, ev0, hz0, ts0, hb0, _⟩ := toks9_of (v := .slice xa0 len0 cap0) hfu0
 injection ev0 with ev0 ev1 ev2
 subst ev0 ev1 ev2
 clear hA0 hval0
 simp only [List.append_nil] at hW'
 refine (reads_any xa0 len0 cap0 l0 W hz0 ts0 hb0   (env_of hsh hL)).mono fun e W' ⟨he, hg⟩ => ?_
 subst he
 exact ⟨_, rfl, _, _, _, [], _, [], hW', trodAll_mk1 (shut_bool Tryz.underlying4 _), (trodAll_cons_mk (Below.trod laidOut (by kernel_rfl) (of_decide_eq_true (by kernel_rfl)) k0 hg lt0) trodAll_mk0), rfl, hg.frame _, fun h => by cases h⟩
theorem c1 : Rows.exprReadsRow.inPlace = Tryz.prog.inPlace 4 := by kernel_rfl
theorem c2 : Rows.exprReadsRow.unfollowed = Tryz.prog.unfollowed 4 := by kernel_rfl
theorem c3 : Rows.exprReadsRow.recurses = Tryz.prog.recurses 4 := by kernel_rfl
theorem c4 : Rows.exprReadsRow.named = Tryz.prog.varsNamed 4 := by kernel_rfl
theorem facts : joinedFacts Tryz.prog 4 Tryz.f4 Rows.exprReadsSpec Rows.exprReadsRow = true := by
 unfold joinedFacts
 rw [← c1, ← c2, ← c3, ← c4]
 kernel_rfl
theorem wraps : Tryz.f4.isWrapper Tryz.prog Rows.exprReadsRow.wrapper Rows.exprReadsRow.mainSum := by unfold Func.isWrapper; first | (rw [if_pos (by decide +kernel)]; kernel_rfl) | (rw [if_neg (by decide +kernel)]; exact ⟨rfl, rfl⟩)
theorem inst : Tryz.f4.isInstance Tryz.prog Rows.exprReadsRow.origin Rows.exprReadsRow.targs := of_decide_eq_true (by kernel_rfl)
theorem goes : false = Rows.exprReadsRow.goesBy Tryz.prog := by kernel_rfl
theorem text : Rows.exprReadsRow.wfByText (OpenSpec.ofChange Rows.exprReadsSpec) = true := by kernel_rfl
theorem looks : true = Tryz.prog.looks [] := by kernel_rfl
theorem holds : Rows.ExprReadsSaid :=
 OpenClaim.holds_of_wide 4 Tryz.f4 rfl rfl rfl rfl rfl rfl rfl ⟨rfl, rfl, rfl, rfl, rfl⟩ rfl rfl rfl rfl rfl (by kernel_rfl) Tryz.func4 facts inst wraps (fun os started H enc _ => lifted os started H enc)
end Go.Proofs.YteankdaegdhfiaaGreatDoor.exprReadsRow
namespace Go.Proofs.YteankdaegdhfiaaGreatDoor
open Go
theorem exprReads_card : Rows.ExprReadsCardSaid :=
 Claim7.holds_tied_plain_at .later [] [.data, .data, .data, .data, .sentinel, .sentinel, .pinned] true (true, "fc8e6130e7cffdc4306bfdd31a4c3f023174449f413e0b6ecd463494529c6174") true exprReadsRow.holds (fun _ h => by cases h) exprReadsRow.text (fun _ h => by cases h) exprReads_row_tie rfl ⟨rfl, rfl⟩ (by kernel_rfl) rfl
  (fun f fn hf hfn => by
   obtain rfl : f = 4 := Option.some.inj ((show Tryz.prog.funcNamed "spillway/spillwaylaw8.ExprReads" = some 4 by kernel_rfl).symm.trans hf) |>.symm
   obtain rfl : fn = Tryz.f4 := (Option.some.inj (Tryz.func4.symm.trans hfn)).symm
   exact ⟨exprReadsRow.looks, fun j t ht => by
    rw [Tryz.params4] at ht
    have hm : t ∈ [37] := by simpa using Array.mem_of_getElem? ht
    have hall : ([37].all fun u => !Tryz.prog.wantsStandIn u) = true := by kernel_rfl
    exact (show Tryz.prog.wantsStandIn t = false by simpa using List.all_eq_true.1 hall t hm)⟩)
  exprReadsRow.goes
end Go.Proofs.YteankdaegdhfiaaGreatDoor
