/- LabelWith: for every input the law returns true, and its arguments read as they did: the row, and its card, tied to the program's text. Conditions: none beyond the card's own. -/
import Derived.Test.YtmhpmlfpflkgbaaDoorWiths
import Derived.Test.YtmhpmlfpflkgbaaDoorOpen
import Derived.Test.YtmhpmlfpflkgbaaDoorTie
import Derived.Test.YtmhpmlfpflkgbaaDoorCards
namespace Go.Proofs.YtmhpmlfpflkgbaaDoor.labelWithRow
open Go.ChangeShapes Go.WideShapes Go.ChangeAt Go.RowKit Go.Joins Go.ChangeMaps

theorem own : ownKnob Tryd.prog.godebug = none := by kernel_rfl
set_option maxRecDepth 100000 in
theorem lifted (os : Os) (started : os.Started) (H : Type) (enc : TypeId × Value → H) :
    ReturnsInHanded {} Tryd.checked os 5 .any (fun w args => (Rows.labelWithSpec.pre enc Tryd.prog Tryd.f5 Rows.labelWithRow.domain false w args ∧ laidMetH Tryd.prog Rows.labelWithRow.laid w) ∧ sizedMet enc Tryd.prog Tryd.f5 (OpenSpec.ofChange Rows.labelWithSpec) false w args)
      (Rows.labelWithSpec.post enc Tryd.prog Tryd.f5 false true false false) := by
  refine lift_both (C := Tryd.checked) (X := fun w _ => laidMetH Tryd.prog Rows.labelWithRow.laid w) own started (by kernel_rfl) Tryd.func5
    (ChangeSpec.witness_shaped (enc := enc) (C := Tryd.checked) (os := os) (X := fun w _ => laidMetH Tryd.prog Rows.labelWithRow.laid w) false (World.laidAll Tryd.prog os Rows.labelWithRow.laid) #[.slice none 0 0, .agg #[.string ⟨#[]⟩, .string ⟨#[]⟩], .agg #[.string ⟨#[]⟩, .string ⟨#[]⟩]] 8 (World.laidAll_os _ _ _)
      (World.shaped_of_ZipB (by kernel_rfl) (by kernel_rfl)) (by kernel_rfl) (by kernel_rfl) (by kernel_rfl)
      (by rw [MakeChecks.laidMetH_plain _ _ _ (by kernel_rfl)]; exact laidMet_laidAll _ (by kernel_rfl) (by kernel_rfl))) ?_
  intro W base args ds gs before hval0 hW hsh
  have hval : ∀ (j : Nat) t v, Tryd.f5.params[j]? = some t → args[j]? = some v → Value.okWide Tryd.prog W .any base t v := hval0
  have hW' := hW
  obtain ⟨p, q, hA0, hV, rfl, hfz, hnd⟩ := hW
  have hA : DataW.TrodAll enc Tryd.prog W 0 (fun _ => true) true Tryd.f5.params.toList args.toList ds p := hA0
  rw [Tryd.params5] at hA hval
  obtain ⟨v0, vs0, d0, ds0, p0, q0, hargs, rfl, rfl, h0, r0⟩ := trodAll_cons hA
  obtain ⟨v1, vs1, d1, ds1, p1, q1, rfl, rfl, rfl, h1, r1⟩ := trodAll_cons r0
  obtain ⟨v2, vs2, d2, ds2, p2, q2, rfl, rfl, rfl, h2, r2⟩ := trodAll_cons r1
  obtain ⟨rfl, rfl, rfl⟩ := trodAll_nil r2
  obtain rfl : args = #[v0, v1, v2] := by cases args; simp_all
  obtain ⟨rfl, rfl⟩ := trodVars_none hV
  have k0 := h0
  have lt0 : ∀ x ∈ p0, x.block < W.heap.size := by obtain ⟨m, hm⟩ := k0; exact DataW.trod_lt m _ _ _ hm
  obtain ⟨xa0, len0, cap0, rfl⟩ := okWide_slice Tryd.underlying23 (hval 0 23 v0 rfl rfl)
  obtain ⟨l0, hs0, hf0, hm0, hcp0⟩ := pairs_of h0
  obtain ⟨c10, c11, y10, y11, m1, rfl, rfl, rfl, z10, z11⟩ := open_agg2 Tryd.underlying35 (by kernel_rfl) (by kernel_rfl) (hval 1 35 v1 rfl rfl) h1
  obtain ⟨s10, e10, rfl, w10⟩ := DataW.trod_string Tryd.underlying9 z10
  obtain ⟨s11, e11, rfl, w11⟩ := DataW.trod_string Tryd.underlying9 z11
  simp at e10 e11; subst e10 e11
  obtain ⟨l10, rfl, ln10⟩ := tx_of s10
  obtain ⟨l11, rfl, ln11⟩ := tx_of s11
  have b1 : l10.length ≤ 9223372036854775807 ∧ l11.length ≤ 9223372036854775807 := by rw [ln10, ln11]; unfold maxLen at w10 w11; omega
  obtain ⟨c20, c21, y20, y21, m2, rfl, rfl, rfl, z20, z21⟩ := open_agg2 Tryd.underlying35 (by kernel_rfl) (by kernel_rfl) (hval 2 35 v2 rfl rfl) h2
  obtain ⟨s20, e20, rfl, w20⟩ := DataW.trod_string Tryd.underlying9 z20
  obtain ⟨s21, e21, rfl, w21⟩ := DataW.trod_string Tryd.underlying9 z21
  simp at e20 e21; subst e20 e21
  obtain ⟨l20, rfl, ln20⟩ := tx_of s20
  obtain ⟨l21, rfl, ln21⟩ := tx_of s21
  have b2 : l20.length ≤ 9223372036854775807 ∧ l21.length ≤ 9223372036854775807 := by rw [ln20, ln21]; unfold maxLen at w20 w21; omega
  clear hA0 hval0
  simp only [List.append_nil] at hW'
  refine (with_walk xa0 len0 cap0 l0 (l10, l11) (l20, l21) W hm0 b1 b2 hf0 hs0 (mx_of hsh)).mono fun e W' ⟨he, hg⟩ => ?_
  subst he
  exact ⟨_, rfl, _, _, _, [], _, [], hW', trodAll_mk1 (shut_bool Tryd.underlying4 _), (trodAll_cons_mk (Below.trod laidOut (by kernel_rfl) (of_decide_eq_true (by kernel_rfl)) k0 hg lt0) (trodAll_cons_mk (shut_agg2 (y0 := (.lit (.string _), [])) (y1 := (.lit (.string _), [])) Tryd.underlying35 (by kernel_rfl) (by kernel_rfl) ⟨1, by simp [DataW.trod, show Tryd.checked.prog.underlying 9 = some .string from Tryd.underlying9]; exact w10⟩ ⟨1, by simp [DataW.trod, show Tryd.checked.prog.underlying 9 = some .string from Tryd.underlying9]; exact w11⟩) (trodAll_cons_mk (shut_agg2 (y0 := (.lit (.string _), [])) (y1 := (.lit (.string _), [])) Tryd.underlying35 (by kernel_rfl) (by kernel_rfl) ⟨1, by simp [DataW.trod, show Tryd.checked.prog.underlying 9 = some .string from Tryd.underlying9]; exact w20⟩ ⟨1, by simp [DataW.trod, show Tryd.checked.prog.underlying 9 = some .string from Tryd.underlying9]; exact w21⟩) trodAll_mk0))), rfl, hg.frame _, fun h => by cases h⟩

theorem holds : Rows.LabelWithSaid :=
  OpenClaim.holds_of_wide 5 Tryd.f5 rfl rfl rfl rfl rfl rfl rfl ⟨rfl, rfl, rfl, rfl, rfl⟩ rfl rfl rfl rfl rfl (by kernel_rfl) Tryd.func5 (by kernel_rfl)
    (of_decide_eq_true (by kernel_rfl)) (by unfold Func.isWrapper; first | (rw [if_pos (by decide +kernel)]; kernel_rfl) | (rw [if_neg (by decide +kernel)]; exact ⟨rfl, rfl⟩))
    (fun os started H enc _ => lifted os started H enc)
end Go.Proofs.YtmhpmlfpflkgbaaDoor.labelWithRow
namespace Go.Proofs.YtmhpmlfpflkgbaaDoor
open Go
theorem labelWith_card : Rows.LabelWithCardSaid :=
  Claim7.holds_tied_plain_at .later [] [.data, .pinned] true (true, "7c35ece97cabcbaa1c2afc719ecf55d173e96c7beea8f9b90fc46ec07f130bd5") false labelWithRow.holds (fun _ h => by cases h) (by kernel_rfl) (fun _ h => by cases h) labelWith_row_tie rfl ⟨rfl, rfl⟩ (by kernel_rfl) rfl
    (fun f fn hf hfn => by
      obtain rfl : f = 5 := Option.some.inj ((show Tryd.prog.funcNamed "spillway/spillwaylaw3.LabelWith" = some 5 by kernel_rfl).symm.trans hf) |>.symm
      obtain rfl : fn = Tryd.f5 := (Option.some.inj (Tryd.func5.symm.trans hfn)).symm
      exact ⟨by kernel_rfl, fun j t ht => by
        rw [Tryd.params5] at ht
        have hm : t ∈ [23, 35, 35] := by simpa using Array.mem_of_getElem? ht
        have hall : ([23, 35, 35].all fun u => !Tryd.prog.wantsStandIn u) = true := by kernel_rfl
        exact (show Tryd.prog.wantsStandIn t = false by simpa using List.all_eq_true.1 hall t hm)⟩)
    (by kernel_rfl)
end Go.Proofs.YtmhpmlfpflkgbaaDoor
