/- RelabelKeeps: for every input the law returns true, and its arguments read as they did: the row, and its card, tied to the program's text. Conditions: none beyond the card's own. -/
import Derived.Test.YtideieolgjhbiaaGreatDoorKeeps
import Derived.Test.YtideieolgjhbiaaGreatDoorOpenR
import Derived.Test.YtideieolgjhbiaaGreatDoorTie
import Derived.Test.YtideieolgjhbiaaGreatDoorCards
namespace Go.Proofs.YtideieolgjhbiaaGreatDoor.relabelKeepsRow
open Go.ChangeShapes Go.WideShapes Go.ChangeAt Go.RowKit Go.Joins Go.ChangeMaps

theorem own : ownKnob Tryz.prog.godebug = none := by kernel_rfl
set_option maxRecDepth 100000 in
theorem lifted (os : Os) (started : os.Started) (H : Type) (enc : TypeId × Value → H) :
    ReturnsInHanded {} Tryz.checked os 5 .any (fun w args => (Rows.relabelKeepsSpec.pre enc Tryz.prog Tryz.f5 Rows.relabelKeepsRow.domain false w args ∧ laidMetH Tryz.prog Rows.relabelKeepsRow.laid w) ∧ sizedMet enc Tryz.prog Tryz.f5 (OpenSpec.ofChange Rows.relabelKeepsSpec) false w args)
      (Rows.relabelKeepsSpec.post enc Tryz.prog Tryz.f5 false true false false) := by
  refine lift_both (C := Tryz.checked) (X := fun w _ => laidMetH Tryz.prog Rows.relabelKeepsRow.laid w) own started (by kernel_rfl) Tryz.func5
    (ChangeSpec.witness_shaped (enc := enc) (C := Tryz.checked) (os := os) (X := fun w _ => laidMetH Tryz.prog Rows.relabelKeepsRow.laid w) false (World.laidAll Tryz.prog os Rows.relabelKeepsRow.laid) #[.slice none 0 0, .agg #[.string ⟨#[]⟩, .int .i64 0, .string ⟨#[]⟩]] 8 (World.laidAll_os _ _ _)
      (World.shaped_of_ZipB (by kernel_rfl) (by kernel_rfl)) (by kernel_rfl) (by kernel_rfl) (by kernel_rfl)
      (by rw [MakeChecks.laidMetH_plain _ _ _ (by kernel_rfl)]; exact laidMet_laidAll _ (by kernel_rfl) (by kernel_rfl))) ?_
  intro W base args ds gs before hval0 hW hsh
  have hval : ∀ (j : Nat) t v, Tryz.f5.params[j]? = some t → args[j]? = some v → Value.okWide Tryz.prog W .any base t v := hval0
  have hW' := hW
  obtain ⟨p, q, hA0, hV, rfl, hfz, hnd⟩ := hW
  have hA : DataW.TrodAll enc Tryz.prog W 0 (fun _ => true) true Tryz.f5.params.toList args.toList ds p := hA0
  rw [Tryz.params5] at hA hval
  obtain ⟨v0, vs0, d0, ds0, p0, q0, hargs, rfl, rfl, h0, r0⟩ := trodAll_cons hA
  obtain ⟨v1, vs1, d1, ds1, p1, q1, rfl, rfl, rfl, h1, r1⟩ := trodAll_cons r0
  obtain ⟨rfl, rfl, rfl⟩ := trodAll_nil r1
  obtain rfl : args = #[v0, v1] := by cases args; simp_all
  obtain ⟨rfl, rfl⟩ := trodVars_none hV
  have k0 := h0
  have lt0 : ∀ x ∈ p0, x.block < W.heap.size := by obtain ⟨m, hm⟩ := k0; exact DataW.trod_lt m _ _ _ hm
  obtain ⟨xa0, len0, cap0, rfl⟩ := okWide_slice Tryz.underlying22 (hval 0 22 v0 rfl rfl)
  obtain ⟨l0, hs0, hf0, hm0, hcp0⟩ := pairs_of h0
  obtain ⟨c10, c11, c12, y10, y11, y12, m1, rfl, rfl, rfl, z10, z11, z12⟩ := open_agg3 Tryz.underlying33 (by kernel_rfl) (by kernel_rfl) (hval 1 33 v1 rfl rfl) h1
  obtain ⟨s10, e10, rfl, w10⟩ := DataW.trod_string Tryz.underlying9 z10
  obtain ⟨n11, e11, rfl, w11⟩ := DataW.trod_int Tryz.underlying3 z11
  obtain ⟨s12, e12, rfl, w12⟩ := DataW.trod_string Tryz.underlying9 z12
  simp at e10 e11 e12; subst e10 e11 e12
  obtain ⟨l10, rfl, ln10⟩ := tx_of s10
  obtain ⟨l12, rfl, ln12⟩ := tx_of s12
  have b1 : l10.length ≤ 9223372036854775807 ∧ l12.length ≤ 9223372036854775807 := by rw [ln10, ln12]; unfold maxLen at w10 w12; omega
  clear hA0 hval0
  simp only [List.append_nil] at hW'
  refine (keeps_any xa0 len0 cap0 l0 ⟨l10, n11, l12⟩ W hm0 b1 hf0 hs0 (mx_of hsh)).mono fun e W' ⟨he, hg⟩ => ?_
  subst he
  exact ⟨_, rfl, _, _, _, [], _, [], hW', trodAll_mk1 (shut_bool Tryz.underlying4 _), (trodAll_cons_mk (Below.trod laidOut (by kernel_rfl) (of_decide_eq_true (by kernel_rfl)) k0 hg lt0) (trodAll_cons_mk (shut_agg3 (y0 := (.lit (.string _), [])) (y1 := (.lit (.int .i64 _), [])) (y2 := (.lit (.string _), [])) Tryz.underlying33 (by kernel_rfl) (by kernel_rfl) ⟨1, by simp [DataW.trod, show Tryz.checked.prog.underlying 9 = some .string from Tryz.underlying9]; exact w10⟩ ⟨1, by simp [DataW.trod, show Tryz.checked.prog.underlying 3 = some (.int .i64) from Tryz.underlying3]; exact w11⟩ ⟨1, by simp [DataW.trod, show Tryz.checked.prog.underlying 9 = some .string from Tryz.underlying9]; exact w12⟩) trodAll_mk0)), rfl, hg.frame _, fun h => by cases h⟩

theorem holds : Rows.RelabelKeepsSaid :=
  OpenClaim.holds_of_wide 5 Tryz.f5 rfl rfl rfl rfl rfl rfl rfl ⟨rfl, rfl, rfl, rfl, rfl⟩ rfl rfl rfl rfl rfl (by kernel_rfl) Tryz.func5 (by kernel_rfl)
    (of_decide_eq_true (by kernel_rfl)) (by unfold Func.isWrapper; first | (rw [if_pos (by decide +kernel)]; kernel_rfl) | (rw [if_neg (by decide +kernel)]; exact ⟨rfl, rfl⟩))
    (fun os started H enc _ => lifted os started H enc)
end Go.Proofs.YtideieolgjhbiaaGreatDoor.relabelKeepsRow
namespace Go.Proofs.YtideieolgjhbiaaGreatDoor
open Go
theorem relabelKeeps_card : Rows.RelabelKeepsCardSaid :=
  Claim7.holds_tied_plain_at .later [] [.data, .pinned] true (true, "239aeeb957d1f295548c6f70f906923867540864df6fd64f66c8631ccd8720e1") false relabelKeepsRow.holds (fun _ h => by cases h) (by kernel_rfl) (fun _ h => by cases h) relabelKeeps_row_tie rfl ⟨rfl, rfl⟩ (by kernel_rfl) rfl
    (fun f fn hf hfn => by
      obtain rfl : f = 5 := Option.some.inj ((show Tryz.prog.funcNamed "spillway/spillwaylaw5.RelabelKeeps" = some 5 by kernel_rfl).symm.trans hf) |>.symm
      obtain rfl : fn = Tryz.f5 := (Option.some.inj (Tryz.func5.symm.trans hfn)).symm
      exact ⟨by kernel_rfl, fun j t ht => by
        rw [Tryz.params5] at ht
        have hm : t ∈ [22, 33] := by simpa using Array.mem_of_getElem? ht
        have hall : ([22, 33].all fun u => !Tryz.prog.wantsStandIn u) = true := by kernel_rfl
        exact (show Tryz.prog.wantsStandIn t = false by simpa using List.all_eq_true.1 hall t hm)⟩)
    (by kernel_rfl)
end Go.Proofs.YtideieolgjhbiaaGreatDoor
