/- ExprTells: for every input the law returns true, and its arguments read as they did: the row, and its card, tied to the program's text. Conditions: none beyond the card's own. -/
import Derived.Test.YteankdaegdhfiaaGreatDoorTie
import Derived.Test.YteankdaegdhfiaaGreatDoorCards
import Derived.Test.YteankdaegdhfiaaGreatDoorKYTells
import Derived.Test.YteankdaegdhfiaaGreatDoorKMU
namespace Go.Proofs.YteankdaegdhfiaaGreatDoor.exprTellsRow
open Go.ChangeShapes Go.WideShapes Go.ChangeAt Go.RowKit Go.Joins Go.ChangeMaps
theorem own : ownKnob Tryz.prog.godebug = none := by kernel_rfl
set_option maxRecDepth 100000 in
theorem lifted (os : Os) (started : os.Started) (H : Type) (enc : TypeId × Value → H) :
  ReturnsInHanded {} Tryz.checked os 3 .any (fun w args => (Rows.exprTellsSpec.pre enc Tryz.prog Tryz.f3 Rows.exprTellsRow.domain false w args ∧ laidMetH Tryz.prog Rows.exprTellsRow.laid w) ∧ sizedMet enc Tryz.prog Tryz.f3 (OpenSpec.ofChange Rows.exprTellsSpec) false w args)
   (Rows.exprTellsSpec.post enc Tryz.prog Tryz.f3 false true false false) := by
 refine lift_env (fun _ _ _ hh h => h.of_heap hh) (C := Tryz.checked) (X := fun w _ => laidMetH Tryz.prog Rows.exprTellsRow.laid w) own started (by kernel_rfl) Tryz.func3
  (ChangeSpec.witness_shaped (enc := enc) (C := Tryz.checked) (os := os) (X := fun w _ => laidMetH Tryz.prog Rows.exprTellsRow.laid w) false (World.laidAll Tryz.prog os Rows.exprTellsRow.laid) #[.string ⟨#[]⟩] 8 (World.laidAll_os _ _ _)
   (World.shaped_of_ZipB (by kernel_rfl) (by kernel_rfl)) (by kernel_rfl) (by kernel_rfl) (by kernel_rfl)
   (by rw [MakeChecks.laidMetH_plain _ _ _ (by kernel_rfl)]; exact laidMet_laidAll _ (by kernel_rfl) (by kernel_rfl))) ?_
 intro W base args ds gs before hval0 hW hsh hL
 have hval : ∀ (j : Nat) t v, Tryz.f3.params[j]? = some t → args[j]? = some v → Value.okWide Tryz.prog W .any base t v := hval0
 have hW' := hW
 obtain ⟨p, q, hA0, hV, rfl, hfz, hnd⟩ := hW
 have hA : DataW.TrodAll enc Tryz.prog W 0 (fun _ => true) true Tryz.f3.params.toList args.toList ds p := hA0
 rw [Tryz.params3] at hA hval
 obtain ⟨v0, vs0, d0, ds0, p0, q0, hargs, rfl, rfl, h0, r0⟩ := trodAll_cons hA
 obtain ⟨rfl, rfl, rfl⟩ := trodAll_nil r0
 obtain rfl : args = #[v0] := by cases args; simp_all
 obtain ⟨rfl, rfl⟩ := trodVars_none hV
 obtain ⟨s0, rfl, rfl, rfl, w0⟩ := open_string Tryz.underlying9 (hval 0 9 v0 rfl rfl) h0
 obtain ⟨l0, rfl, ln0⟩ := tx_of s0
 have b0 : l0.length ≤ 9223372036854775807 := by rw [ln0]; unfold maxLen at w0; omega
 clear hA0 hval0
 simp only [List.append_nil] at hW'
 refine (etells_any l0 W b0   (env_of hsh hL)).mono fun e W' ⟨he, hg⟩ => ?_
 subst he
 exact ⟨_, rfl, _, _, _, [], [], [], hW', trodAll_mk1 (shut_bool Tryz.underlying4 _), (trodAll_cons_mk (shut_string Tryz.underlying9 w0) trodAll_mk0), rfl, hg.frame _, fun h => by cases h⟩
theorem c1 : Rows.exprTellsRow.inPlace = Tryz.prog.inPlace 3 := by kernel_rfl
theorem c2 : Rows.exprTellsRow.unfollowed = Tryz.prog.unfollowed 3 := by kernel_rfl
theorem c3 : Rows.exprTellsRow.recurses = Tryz.prog.recurses 3 := by kernel_rfl
theorem c4 : Rows.exprTellsRow.named = Tryz.prog.varsNamed 3 := by kernel_rfl
theorem facts : joinedFacts Tryz.prog 3 Tryz.f3 Rows.exprTellsSpec Rows.exprTellsRow = true := by
 unfold joinedFacts
 rw [← c1, ← c2, ← c3, ← c4]
 kernel_rfl
theorem wraps : Tryz.f3.isWrapper Tryz.prog Rows.exprTellsRow.wrapper Rows.exprTellsRow.mainSum := by unfold Func.isWrapper; first | (rw [if_pos (by decide +kernel)]; kernel_rfl) | (rw [if_neg (by decide +kernel)]; exact ⟨rfl, rfl⟩)
theorem inst : Tryz.f3.isInstance Tryz.prog Rows.exprTellsRow.origin Rows.exprTellsRow.targs := of_decide_eq_true (by kernel_rfl)
theorem goes : false = Rows.exprTellsRow.goesBy Tryz.prog := by kernel_rfl
theorem text : Rows.exprTellsRow.wfByText (OpenSpec.ofChange Rows.exprTellsSpec) = true := by kernel_rfl
theorem looks : true = Tryz.prog.looks [] := by kernel_rfl
theorem holds : Rows.ExprTellsSaid :=
 OpenClaim.holds_of_wide 3 Tryz.f3 rfl rfl rfl rfl rfl rfl rfl ⟨rfl, rfl, rfl, rfl, rfl⟩ rfl rfl rfl rfl rfl (by kernel_rfl) Tryz.func3 facts inst wraps (fun os started H enc _ => lifted os started H enc)
end Go.Proofs.YteankdaegdhfiaaGreatDoor.exprTellsRow
namespace Go.Proofs.YteankdaegdhfiaaGreatDoor
open Go
theorem exprTells_card : Rows.ExprTellsCardSaid :=
 Claim7.holds_tied_plain_at .later [] [.data, .data, .data, .data, .sentinel, .sentinel, .pinned] true (true, "fc8e6130e7cffdc4306bfdd31a4c3f023174449f413e0b6ecd463494529c6174") true exprTellsRow.holds (fun _ h => by cases h) exprTellsRow.text (fun _ h => by cases h) exprTells_row_tie rfl ⟨rfl, rfl⟩ (by kernel_rfl) rfl
  (fun f fn hf hfn => by
   obtain rfl : f = 3 := Option.some.inj ((show Tryz.prog.funcNamed "spillway/spillwaylaw8.ExprTells" = some 3 by kernel_rfl).symm.trans hf) |>.symm
   obtain rfl : fn = Tryz.f3 := (Option.some.inj (Tryz.func3.symm.trans hfn)).symm
   exact ⟨exprTellsRow.looks, fun j t ht => by
    rw [Tryz.params3] at ht
    have hm : t ∈ [9] := by simpa using Array.mem_of_getElem? ht
    have hall : ([9].all fun u => !Tryz.prog.wantsStandIn u) = true := by kernel_rfl
    exact (show Tryz.prog.wantsStandIn t = false by simpa using List.all_eq_true.1 hall t hm)⟩)
  exprTellsRow.goes
end Go.Proofs.YteankdaegdhfiaaGreatDoor
