/- ExpoBuilt: for every input the law returns true, and its arguments read as they did: the row, and its card, tied to the program's text. Conditions: none beyond the card's own. -/
import Derived.Test.YtcbjhfnlhpallaaGreatDoorEBuilt
import Derived.Test.YtcbjhfnlhpallaaGreatDoorEOpen
import Derived.Test.YtcbjhfnlhpallaaGreatDoorTie
import Derived.Test.YtcbjhfnlhpallaaGreatDoorCards
namespace Go.Proofs.YtcbjhfnlhpallaaGreatDoor.expoBuiltRow
open Go.ChangeShapes Go.WideShapes Go.ChangeAt Go.RowKit Go.Joins Go.ChangeMaps

theorem own : ownKnob Tryz.prog.godebug = none := by kernel_rfl
set_option maxRecDepth 100000 in
theorem lifted (os : Os) (started : os.Started) (H : Type) (enc : TypeId × Value → H) :
    ReturnsInHanded {} Tryz.checked os 6 .any (fun w args => (Rows.expoBuiltSpec.pre enc Tryz.prog Tryz.f6 Rows.expoBuiltRow.domain false w args ∧ laidMetH Tryz.prog Rows.expoBuiltRow.laid w) ∧ sizedMet enc Tryz.prog Tryz.f6 (OpenSpec.ofChange Rows.expoBuiltSpec) false w args)
      (Rows.expoBuiltSpec.post enc Tryz.prog Tryz.f6 false true false false) := by
  refine lift_env (fun _ _ _ hh h => h.of_heap hh) (C := Tryz.checked) (X := fun w _ => laidMetH Tryz.prog Rows.expoBuiltRow.laid w) own started (by kernel_rfl) Tryz.func6
    (ChangeSpec.witness_shaped (enc := enc) (C := Tryz.checked) (os := os) (X := fun w _ => laidMetH Tryz.prog Rows.expoBuiltRow.laid w) false (World.laidAll Tryz.prog os Rows.expoBuiltRow.laid) #[.string ⟨#[]⟩, .agg #[.bool false, .int .i64 0], .int .u32 0, .bool false] 8 (World.laidAll_os _ _ _)
      (World.shaped_of_ZipB (by kernel_rfl) (by kernel_rfl)) (by kernel_rfl) (by kernel_rfl) (by kernel_rfl)
      (by rw [MakeChecks.laidMetH_plain _ _ _ (by kernel_rfl)]; exact laidMet_laidAll _ (by kernel_rfl) (by kernel_rfl))) ?_
  intro W base args ds gs before hval0 hW hsh hL
  have hval : ∀ (j : Nat) t v, Tryz.f6.params[j]? = some t → args[j]? = some v → Value.okWide Tryz.prog W .any base t v := hval0
  have hW' := hW
  obtain ⟨p, q, hA0, hV, rfl, hfz, hnd⟩ := hW
  have hA : DataW.TrodAll enc Tryz.prog W 0 (fun _ => true) true Tryz.f6.params.toList args.toList ds p := hA0
  rw [Tryz.params6] at hA hval
  obtain ⟨v0, vs0, d0, ds0, p0, q0, hargs, rfl, rfl, h0, r0⟩ := trodAll_cons hA
  obtain ⟨v1, vs1, d1, ds1, p1, q1, rfl, rfl, rfl, h1, r1⟩ := trodAll_cons r0
  obtain ⟨v2, vs2, d2, ds2, p2, q2, rfl, rfl, rfl, h2, r2⟩ := trodAll_cons r1
  obtain ⟨v3, vs3, d3, ds3, p3, q3, rfl, rfl, rfl, h3, r3⟩ := trodAll_cons r2
  obtain ⟨rfl, rfl, rfl⟩ := trodAll_nil r3
  obtain rfl : args = #[v0, v1, v2, v3] := by cases args; simp_all
  obtain ⟨rfl, rfl⟩ := trodVars_none hV
  obtain ⟨s0, rfl, rfl, rfl, w0⟩ := open_string Tryz.underlying9 (hval 0 9 v0 rfl rfl) h0
  obtain ⟨l0, rfl, ln0⟩ := tx_of s0
  have b0 : l0.length ≤ 9223372036854775807 := by rw [ln0]; unfold maxLen at w0; omega
  obtain ⟨c10, c11, y10, y11, m1, rfl, rfl, rfl, z10, z11⟩ := open_agg2 Tryz.underlying32 (by kernel_rfl) (by kernel_rfl) (hval 1 32 v1 rfl rfl) h1
  obtain ⟨o1, e10, rfl⟩ := DataW.trod_bool Tryz.underlying4 z10
  obtain ⟨n1, e11, rfl, w11⟩ := DataW.trod_int Tryz.underlying2 z11
  simp at e10 e11; subst e10 e11
  have b1 : -9223372036854775808 ≤ n1 ∧ n1 ≤ 9223372036854775807 := by simpa [Lit.wf, IntKind.min, IntKind.max, IntKind.signed, IntKind.bits] using w11
  obtain ⟨n2, rfl, rfl, rfl, w2⟩ := open_int Tryz.underlying50 (hval 2 50 v2 rfl rfl) h2
  have b2 : 0 ≤ n2 ∧ n2 ≤ 4294967295 := by simpa [Lit.wf, IntKind.min, IntKind.max, IntKind.signed, IntKind.bits] using w2
  obtain ⟨N2, rfl⟩ : ∃ N : Nat, n2 = N := ⟨n2.toNat, by omega⟩
  obtain ⟨x3, rfl, rfl, rfl⟩ := open_bool Tryz.underlying4 (hval 3 4 v3 rfl rfl) h3
  clear hA0 hval0
  simp only [List.append_nil] at hW'
  refine (built_any l0 o1 n1 N2 x3 W b0 b1 (by omega)   (env_of hsh hL)).mono fun e W' ⟨he, hg⟩ => ?_
  subst he
  exact ⟨_, rfl, _, _, _, [], [], [], hW', trodAll_mk1 (shut_bool Tryz.underlying4 _), (trodAll_cons_mk (shut_string Tryz.underlying9 w0) (trodAll_cons_mk (shut_agg2 (y0 := (.lit (.bool _), [])) (y1 := (.lit (.int .i64 _), [])) Tryz.underlying32 (by kernel_rfl) (by kernel_rfl) ⟨1, by simp [DataW.trod]⟩ ⟨1, by simp [DataW.trod]; exact w11⟩) (trodAll_cons_mk (shut_int Tryz.underlying50 w2) (trodAll_cons_mk (shut_bool Tryz.underlying4 _) trodAll_mk0)))), rfl, hg.frame _, fun h => by cases h⟩

theorem holds : Rows.ExpoBuiltSaid :=
  OpenClaim.holds_of_wide 6 Tryz.f6 rfl rfl rfl rfl rfl rfl rfl ⟨rfl, rfl, rfl, rfl, rfl⟩ rfl rfl rfl rfl rfl (by kernel_rfl) Tryz.func6 (by kernel_rfl)
    (of_decide_eq_true (by kernel_rfl)) (by unfold Func.isWrapper; first | (rw [if_pos (by decide +kernel)]; kernel_rfl) | (rw [if_neg (by decide +kernel)]; exact ⟨rfl, rfl⟩))
    (fun os started H enc _ => lifted os started H enc)
end Go.Proofs.YtcbjhfnlhpallaaGreatDoor.expoBuiltRow
namespace Go.Proofs.YtcbjhfnlhpallaaGreatDoor
open Go
theorem expoBuilt_card : Rows.ExpoBuiltCardSaid :=
  Claim7.holds_tied_plain_at .later [] [.data, .data, .data, .data, .sentinel, .sentinel, .pinned] true (true, "f0eef0bc9d0c2a37a8207eee6e795b5711fa5950519fd5407c2c6f7f76733beb") true expoBuiltRow.holds (fun _ h => by cases h) (by kernel_rfl) (fun _ h => by cases h) expoBuilt_row_tie rfl ⟨rfl, rfl⟩ (by kernel_rfl) rfl
    (fun f fn hf hfn => by
      obtain rfl : f = 6 := Option.some.inj ((show Tryz.prog.funcNamed "spillway/spillwaylaw6.ExpoBuilt" = some 6 by kernel_rfl).symm.trans hf) |>.symm
      obtain rfl : fn = Tryz.f6 := (Option.some.inj (Tryz.func6.symm.trans hfn)).symm
      exact ⟨by kernel_rfl, fun j t ht => by
        rw [Tryz.params6] at ht
        have hm : t ∈ [9, 32, 50, 4] := by simpa using Array.mem_of_getElem? ht
        have hall : ([9, 32, 50, 4].all fun u => !Tryz.prog.wantsStandIn u) = true := by kernel_rfl
        exact (show Tryz.prog.wantsStandIn t = false by simpa using List.all_eq_true.1 hall t hm)⟩)
    (by kernel_rfl)
end Go.Proofs.YtcbjhfnlhpallaaGreatDoor
