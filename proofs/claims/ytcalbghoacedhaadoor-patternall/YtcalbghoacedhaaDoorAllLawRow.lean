/- PatternAll: for every input the law returns true, and its arguments read as they did: the row, and its card, tied to the program's text. Conditions: none beyond the card's own. -/
import Derived.Test.YtcalbghoacedhaaDoorAllLaw
import Derived.Test.YtcalbghoacedhaaDoorOpenM
import Derived.Test.YtcalbghoacedhaaDoorTie
import Derived.Test.YtcalbghoacedhaaDoorCards
namespace Go.Proofs.YtcalbghoacedhaaDoor.patternAllRow
open Go.ChangeShapes Go.WideShapes Go.ChangeAt Go.RowKit Go.Joins Go.ChangeMaps

theorem own : ownKnob Tryd.prog.godebug = none := by kernel_rfl
set_option maxRecDepth 100000 in
theorem lifted (os : Os) (started : os.Started) (H : Type) (enc : TypeId × Value → H) :
    ReturnsInHanded {} Tryd.checked os 6 .any (fun w args => (Rows.patternAllSpec.pre enc Tryd.prog Tryd.f6 Rows.patternAllRow.domain false w args ∧ laidMetH Tryd.prog Rows.patternAllRow.laid w) ∧ sizedMet enc Tryd.prog Tryd.f6 (OpenSpec.ofChange Rows.patternAllSpec) false w args)
      (Rows.patternAllSpec.post enc Tryd.prog Tryd.f6 false true false false) := by
  refine lift_both (C := Tryd.checked) (X := fun w _ => laidMetH Tryd.prog Rows.patternAllRow.laid w) own started (by kernel_rfl) Tryd.func6
    (ChangeSpec.witness_shaped (enc := enc) (C := Tryd.checked) (os := os) (X := fun w _ => laidMetH Tryd.prog Rows.patternAllRow.laid w) false (World.laidAll Tryd.prog os Rows.patternAllRow.laid) #[.slice none 0 0, .slice none 0 0, .agg #[.string ⟨#[]⟩, .int .i64 0, .string ⟨#[]⟩]] 8 (World.laidAll_os _ _ _)
      (World.shaped_of_ZipB (by kernel_rfl) (by kernel_rfl)) (by kernel_rfl) (by kernel_rfl) (by kernel_rfl)
      (by rw [MakeChecks.laidMetH_plain _ _ _ (by kernel_rfl)]; exact laidMet_laidAll _ (by kernel_rfl) (by kernel_rfl))) ?_
  intro W base args ds gs before hval0 hW hsh
  have hval : ∀ (j : Nat) t v, Tryd.f6.params[j]? = some t → args[j]? = some v → Value.okWide Tryd.prog W .any base t v := hval0
  have hW' := hW
  obtain ⟨p, q, hA0, hV, rfl, hfz, hnd⟩ := hW
  have hA : DataW.TrodAll enc Tryd.prog W 0 (fun _ => true) true Tryd.f6.params.toList args.toList ds p := hA0
  rw [Tryd.params6] at hA hval
  obtain ⟨v0, vs0, d0, ds0, p0, q0, hargs, rfl, rfl, h0, r0⟩ := trodAll_cons hA
  obtain ⟨v1, vs1, d1, ds1, p1, q1, rfl, rfl, rfl, h1, r1⟩ := trodAll_cons r0
  obtain ⟨v2, vs2, d2, ds2, p2, q2, rfl, rfl, rfl, h2, r2⟩ := trodAll_cons r1
  obtain ⟨rfl, rfl, rfl⟩ := trodAll_nil r2
  obtain rfl : args = #[v0, v1, v2] := by cases args; simp_all
  obtain ⟨rfl, rfl⟩ := trodVars_none hV
  have k0 := h0
  have lt0 : ∀ x ∈ p0, x.block < W.heap.size := by obtain ⟨m, hm⟩ := k0; exact DataW.trod_lt m _ _ _ hm
  obtain ⟨xa0, len0, cap0, rfl⟩ := okWide_slice Tryd.underlying23 (hval 0 23 v0 rfl rfl)
  obtain ⟨l0, hs0, hf0, hm0, hcp0⟩ := pairs_of h0
  have k1 := h1
  have lt1 : ∀ x ∈ p1, x.block < W.heap.size := by obtain ⟨m, hm⟩ := k1; exact DataW.trod_lt m _ _ _ hm
  obtain ⟨xa1, len1, cap1, rfl⟩ := okWide_slice Tryd.underlying22 (hval 1 22 v1 rfl rfl)
  obtain ⟨l1, hs1, hf1, hm1, hcp1⟩ := mats_of h1
  obtain ⟨c20, c21, c22, y20, y21, y22, m2, rfl, rfl, rfl, z20, z21, z22⟩ := open_agg3 Tryd.underlying26 (by kernel_rfl) (by kernel_rfl) (hval 2 26 v2 rfl rfl) h2
  obtain ⟨s20, e20, rfl, w20⟩ := DataW.trod_string Tryd.underlying9 z20
  obtain ⟨n21, e21, rfl, w21⟩ := DataW.trod_int Tryd.underlying3 z21
  obtain ⟨s22, e22, rfl, w22⟩ := DataW.trod_string Tryd.underlying9 z22
  simp at e20 e21 e22; subst e20 e21 e22
  obtain ⟨l20, rfl, ln20⟩ := tx_of s20
  obtain ⟨l22, rfl, ln22⟩ := tx_of s22
  have b2 : l20.length ≤ 9223372036854775807 ∧ l22.length ≤ 9223372036854775807 := by rw [ln20, ln22]; unfold maxLen at w20 w22; omega
  clear hA0 hval0
  simp only [List.append_nil] at hW'
  refine (all_walk xa0 len0 cap0 l0 xa1 len1 cap1 l1 ⟨l20, n21, l22⟩ W hm0 hm1 b2 hf0 hf1 hs0 hs1).mono fun e W' ⟨he, hg⟩ => ?_
  subst he
  exact ⟨_, rfl, _, _, _, [], _, [], hW', trodAll_mk1 (shut_bool Tryd.underlying4 _), (trodAll_cons_mk (Below.trod laidOut (by kernel_rfl) (of_decide_eq_true (by kernel_rfl)) k0 hg lt0) (trodAll_cons_mk (Below.trod laidOut (by kernel_rfl) (of_decide_eq_true (by kernel_rfl)) k1 hg lt1) (trodAll_cons_mk (shut_agg3 (y0 := (.lit (.string _), [])) (y1 := (.lit (.int .i64 _), [])) (y2 := (.lit (.string _), [])) Tryd.underlying26 (by kernel_rfl) (by kernel_rfl) ⟨1, by simp [DataW.trod, show Tryd.checked.prog.underlying 9 = some .string from Tryd.underlying9]; exact w20⟩ ⟨1, by simp [DataW.trod, show Tryd.checked.prog.underlying 3 = some (.int .i64) from Tryd.underlying3]; exact w21⟩ ⟨1, by simp [DataW.trod, show Tryd.checked.prog.underlying 9 = some .string from Tryd.underlying9]; exact w22⟩) trodAll_mk0))), rfl, hg.frame _, fun h => by cases h⟩

theorem holds : Rows.PatternAllSaid :=
  OpenClaim.holds_of_wide 6 Tryd.f6 rfl rfl rfl rfl rfl rfl rfl ⟨rfl, rfl, rfl, rfl, rfl⟩ rfl rfl rfl rfl rfl (by kernel_rfl) Tryd.func6 (by kernel_rfl)
    (of_decide_eq_true (by kernel_rfl)) (by unfold Func.isWrapper; first | (rw [if_pos (by decide +kernel)]; kernel_rfl) | (rw [if_neg (by decide +kernel)]; exact ⟨rfl, rfl⟩))
    (fun os started H enc _ => lifted os started H enc)
end Go.Proofs.YtcalbghoacedhaaDoor.patternAllRow
namespace Go.Proofs.YtcalbghoacedhaaDoor
open Go
theorem patternAll_card : Rows.PatternAllCardSaid :=
  Claim7.holds_tied_plain_at .later [] [.data, .pinned] true (true, "8f0b65d1c2c151409c6e6b5886394d0c448de9f4b1b04dffad5958d15c2ae34d") false patternAllRow.holds (fun _ h => by cases h) (by kernel_rfl) (fun _ h => by cases h) patternAll_row_tie rfl ⟨rfl, rfl⟩ (by kernel_rfl) rfl
    (fun f fn hf hfn => by
      obtain rfl : f = 6 := Option.some.inj ((show Tryd.prog.funcNamed "spillway/spillwaylaw4.PatternAll" = some 6 by kernel_rfl).symm.trans hf) |>.symm
      obtain rfl : fn = Tryd.f6 := (Option.some.inj (Tryd.func6.symm.trans hfn)).symm
      exact ⟨by kernel_rfl, fun j t ht => by
        rw [Tryd.params6] at ht
        have hm : t ∈ [23, 22, 26] := by simpa using Array.mem_of_getElem? ht
        have hall : ([23, 22, 26].all fun u => !Tryd.prog.wantsStandIn u) = true := by kernel_rfl
        exact (show Tryd.prog.wantsStandIn t = false by simpa using List.all_eq_true.1 hall t hm)⟩)
    (by kernel_rfl)
end Go.Proofs.YtcalbghoacedhaaDoor
