/- LabelTells: of every pairs: as the document's. -/
import Derived.Test.YtldlhpokkidmlaaGreatDoorRefWith
import Derived.Test.YtldlhpokkidmlaaGreatDoorWith2
namespace Go.Proofs.YtldlhpokkidmlaaGreatDoor
open Go.RowKit

theorem same_self (l : List Pr) : sameB l l = true := by simp [sameB]
theorem withE_or (l p : List Pr) : withE l p = 0 ∨ withE l p = 30 := by
  unfold withE
  split
  · split
    · exact Or.inl rfl
    · exact Or.inr rfl
  · exact Or.inr rfl
theorem big_len {l : List Pr} (h : bigB l = false) : l.length ≤ 20 := by
  unfold bigB at h
  rw [Bool.or_eq_false_iff] at h
  simpa using h.2
theorem makeL_len {l : List Pr} (h : l.length ≤ 20) : (makeL l).length ≤ 20 := by
  unfold makeL
  split
  · rw [(srt_perm _).length_eq]
    exact Nat.le_trans (List.length_filter_le _ _) h
  · simp
theorem withL_len (l p : List Pr) : (withL l p).length ≤ 20 := by
  unfold withL
  split
  · rename_i h
    unfold withE at h
    split at h
    · split at h
      · rename_i h2
        have := ((is_iff _).1 h2).1
        omega
      · cases h
    · cases h
  · simp
set_option maxRecDepth 200000 in
set_option maxHeartbeats 4000000 in
theorem tells3_walk (xa : Option Addr) (n c : Nat) (a : List Pr) (ya : Option Addr) (m d : Nat) (b : List Pr) (za : Option Addr) (k f : Nat) (ns : List Str) (s : Str) (w : World) (hn : n ≤ 9223372036854775807) (hm : m ≤ 9223372036854775807) (hk : k ≤ 9223372036854775807) (hs : s.length ≤ 9223372036854775807) (hfa : Fit a) (hfb : Fit b) (hx : Ps w xa n a) (hy : Ps w ya m b) (hz : Ss w za k ns) (hmx : Mx w) :
    Calls Tryz.prog 3 #[.slice xa n c, .slice ya m d, .slice za k f, tx s] w fun e w' => e = .returned (.bool true) ∧ Below w.heap.size w w' := by
  go_enter Tryz.func3, Tryz.ntmps3
  go_wp2_with fail
  refine (known_any _ hmx).mono ?_
  rintro e w1 ⟨rfl, hb1⟩
  have hx1 := hx.later hb1
  have hy1 := hy.later hb1
  have hz1 := hz.later hb1
  have hm1 := hmx.later hb1
  have hga := big_any xa n c a w1 hn hfa hx1
  have hgb := big_any ya m d b w1 hm hfb hy1
  have HNa : Hid (a.length = n) := hx.1
  have HNb : Hid (b.length = m) := hy.1
  clear hx hy hz hmx
  cases hba : bigB a with
  | true =>
    rw [hba] at hga
    go_wp2_with fail
    refine hga.mono ?_
    rintro e w2 ⟨rfl, rfl⟩
    go_wp2_with fail
    go_ret
    exact ⟨rfl, hb1⟩
  | false =>
    have hn20 := big_len hba
    rw [HNa.out] at hn20
    rw [hba] at hga
    clear hba
    cases hbb : bigB b with
    | true =>
      rw [hbb] at hgb
      go_wp2_with fail
      refine hga.mono ?_
      rintro e w2 ⟨rfl, rfl⟩
      go_wp2_with fail
      refine hgb.mono ?_
      rintro e w2 ⟨rfl, rfl⟩
      go_wp2_with fail
      go_ret
      exact ⟨rfl, hb1⟩
    | false =>
      have hm20 := big_len hbb
      rw [HNb.out] at hm20
      rw [hbb] at hgb
      clear hbb
      by_cases hk20 : k ≤ 20
      · have hk' : ¬ (20 : Int) < k := by omega
        by_cases hs100 : s.length ≤ 100
        · have hs' : ¬ (100 : Int) < s.length := by omega
          go_wp2_with fail
          refine hga.mono ?_
          rintro e w2 ⟨rfl, rfl⟩
          go_wp2_with fail
          refine hgb.mono ?_
          rintro e w2 ⟨rfl, rfl⟩
          clear hga hgb
          go_wp2_with fail
          refine (make_any xa n c a w1 (by omega) hfa hx1).mono ?_
          rintro e w2 ⟨v9, rfl, o9, hb2⟩
          go_wp2_with fail
          refine (refMake_any xa n c a w2 (by omega) hfa (hx1.later hb2)).mono ?_
          rintro e w3 ⟨v11, rfl, o11, hb3⟩
          have B3 := Below.chain hb2 hb3
          go_wp2_with fail
          refine (with_any2 xa n c a ya m d b w3 (by omega) (by omega) hfa hfb (hx1.later B3) (hy1.later B3)).mono ?_
          rintro e w4 ⟨v13, rfl, o13, hb4⟩
          have B4 := Below.chain B3 hb4
          go_wp2_with fail
          refine (refWith_any xa n c a ya m d b w4 (by omega) (by omega) hfa hfb (hx1.later B4) (hy1.later B4)).mono ?_
          rintro e w5 ⟨v15, rfl, o15, hb5⟩
          have B5 := Below.chain B4 hb5
          obtain ⟨L1, hL1⟩ : ∃ q, Hid (makeL a = q) := ⟨_, rfl⟩
          obtain ⟨L2, hL2⟩ : ∃ q, Hid (withL a b = q) := ⟨_, rfl⟩
          rw [hL1.out] at o9 o11
          rw [hL2.out] at o13 o15
          have hl1 : L1.length ≤ 20 := by rw [← hL1.out]; exact makeL_len (by rw [HNa.out]; exact hn20)
          have hl2 : L2.length ≤ 20 := by rw [← hL2.out]; exact withL_len a b
          obtain ⟨N1, hN1⟩ : ∃ N, L1.length = N := ⟨_, rfl⟩
          obtain ⟨N2, hN2⟩ : ∃ N, L2.length = N := ⟨_, rfl⟩
          rw [hN1] at hl1
          rw [hN2] at hl2
          have q9 := o9.later (Below.chain (Below.chain hb3 hb4) hb5)
          have q11 := o11.later (Below.chain hb4 hb5)
          have q13 := o13.later hb5
          obtain ⟨ao9, cp9, rfl, p9, _⟩ := own_slice6 q9 hN1
          obtain ⟨ao11, cp11, rfl, p11, _⟩ := own_slice6 q11 hN1
          obtain ⟨ao13, cp13, rfl, p13, _⟩ := own_slice6 q13 hN2
          obtain ⟨ao15, cp15, rfl, p15, _⟩ := own_slice6 o15 hN2
          clear o9 o11 o13 o15 q9 q11 q13 hN1 hN2 hL1 hL2 hb2 hb3 hb4 hb5 B3 B4
          generalize makeE a = E at *
          have hW := withE_or a b
          generalize withE a b = G at *
          have HX := fun (W : World) (hW : Below w1.heap.size w1 W) => hx1.later hW
          have HY := fun (W : World) (hW : Below w1.heap.size w1 W) => hy1.later hW
          have HZ := fun (W : World) (hW : Below w1.heap.size w1 W) => hz1.later hW
          have HMx := fun (W : World) (hW : Below w1.heap.size w1 W) => hm1.later hW
          clear hx1 hy1 hz1 hm1
          rcases hW with rfl | rfl
          · go_wp2_with fail
            refine (is_any xa n c a w5 hn hfa (HX w5 B5)).mono ?_
            rintro e y1 ⟨rfl, hy1⟩
            have C1 := Below.chain B5 hy1
            go_wp2_with fail
            refine (refIs_any xa n c a y1 hn hfa (HX y1 C1)).mono ?_
            rintro e y2 ⟨rfl, hy2⟩
            have C2 := Below.chain C1 hy2
            go_wp2_with fail
            refine (name_any s y2 hs).mono ?_
            rintro e y2' ⟨rfl, rfl⟩
            go_wp2_with fail
            refine (refName_any s y2 hs).mono ?_
            rintro e y2' ⟨rfl, rfl⟩
            have D2 := Below.chain hy1 hy2
            go_wp2_with fail
            refine (same_any ao9 N1 cp9 L1 ao11 N1 cp11 L1 y2 (by omega) (by omega) (p9.later D2) (p11.later D2)).mono ?_
            rintro e y50 ⟨rfl, kk5, rfl⟩
            have hy5 := below_drewN (Below.refl y2.heap.size y2) kk5
            have C5 := Below.chain C2 hy5
            rw [same_self]
            generalize y2.drewN kk5 = y5 at *
            have D5 := Below.chain D2 hy5
            go_wp2_with fail
            refine (same_any ao13 N2 cp13 L2 ao15 N2 cp15 L2 y5 (by omega) (by omega) (p13.later D5) (p15.later D5)).mono ?_
            rintro e y60 ⟨rfl, kk6, rfl⟩
            have hy6 := below_drewN (Below.refl y5.heap.size y5) kk6
            have C6 := Below.chain C5 hy6
            rw [same_self]
            generalize y5.drewN kk6 = y6 at *
            go_wp2_with fail
            refine (get_any xa n c a s y6 hn (HX y6 C6)).mono ?_
            rintro e y7 ⟨rfl, hy7⟩
            have C7 := Below.chain C6 hy7
            go_wp2_with fail
            refine (refGet_any xa n c a s y7 hn (HX y7 C7)).mono ?_
            rintro e y7' ⟨rfl, rfl⟩
            go_wp2_with fail
            refine (keep_any xa n c a za k f ns y7 (by omega) hk (HX y7 C7) (HZ y7 C7)).mono ?_
            rintro e y9 ⟨v9, rfl, o9, hy9⟩
            have C9 := Below.chain C7 hy9
            go_wp2_with fail
            refine (refKeep_any xa n c a za k f ns y9 (by omega) hk (HX y9 C9) (HZ y9 C9)).mono ?_
            rintro e y10 ⟨v10, rfl, o10, hy10⟩
            have C10 := Below.chain C9 hy10
            obtain ⟨K9, hK9⟩ : ∃ q, Hid (fKeep a ns = q) := ⟨_, rfl⟩
            rw [hK9.out] at o9 o10
            obtain ⟨M9, hM9⟩ : ∃ N, K9.length = N := ⟨_, rfl⟩
            have hMb9 : M9 ≤ 20 := by rw [← hM9, ← hK9.out]; exact Nat.le_trans (List.length_filter_le _ _) (by rw [HNa.out]; exact hn20)
            obtain ⟨ao9, cp9, rfl, r9, _⟩ := own_slice6 (o9.later hy10) hM9
            obtain ⟨ao10, cp10, rfl, r10, _⟩ := own_slice6 o10 hM9
            clear o9 o10 hM9 hK9
            go_wp2_with fail
            refine (same_any ao9 M9 cp9 K9 ao10 M9 cp10 K9 y10 (by omega) (by omega) r9 r10).mono ?_
            rintro e y110 ⟨rfl, kk11, rfl⟩
            have hy11 := below_drewN (Below.refl y10.heap.size y10) kk11
            have C11 := Below.chain C10 hy11
            rw [same_self]
            generalize y10.drewN kk11 = y11 at *
            go_wp2_with fail
            refine (without_any xa n c a za k f ns y11 (by omega) hk (HX y11 C11) (HZ y11 C11)).mono ?_
            rintro e y12 ⟨v12, rfl, o12, hy12⟩
            have C12 := Below.chain C11 hy12
            go_wp2_with fail
            refine (refWithout_any xa n c a za k f ns y12 (by omega) hk (HX y12 C12) (HZ y12 C12)).mono ?_
            rintro e y13 ⟨v13, rfl, o13, hy13⟩
            have C13 := Below.chain C12 hy13
            obtain ⟨K12, hK12⟩ : ∃ q, Hid (fWithout a ns = q) := ⟨_, rfl⟩
            rw [hK12.out] at o12 o13
            obtain ⟨M12, hM12⟩ : ∃ N, K12.length = N := ⟨_, rfl⟩
            have hMb12 : M12 ≤ 20 := by rw [← hM12, ← hK12.out]; exact Nat.le_trans (List.length_filter_le _ _) (by rw [HNa.out]; exact hn20)
            obtain ⟨ao12, cp12, rfl, r12, _⟩ := own_slice6 (o12.later hy13) hM12
            obtain ⟨ao13, cp13, rfl, r13, _⟩ := own_slice6 o13 hM12
            clear o12 o13 hM12 hK12
            go_wp2_with fail
            refine (same_any ao12 M12 cp12 K12 ao13 M12 cp13 K12 y13 (by omega) (by omega) r12 r13).mono ?_
            rintro e y140 ⟨rfl, kk14, rfl⟩
            have hy14 := below_drewN (Below.refl y13.heap.size y13) kk14
            have C14 := Below.chain C13 hy14
            rw [same_self]
            generalize y13.drewN kk14 = y14 at *
            go_wp2_with fail
            refine (cmp_any xa n c a ya m d b y14 hn hm (HX y14 C14) (HY y14 C14)).mono ?_
            rintro e y15 ⟨rfl, hy15⟩
            have C15 := Below.chain C14 hy15
            go_wp2_with fail
            refine (refCmp_any xa n c a ya m d b y15 hn hm (HX y15 C15) (HY y15 C15)).mono ?_
            rintro e y16 ⟨rfl, hy16⟩
            have C16 := Below.chain C15 hy16
            go_wp2_with fail
            refine (print_any xa n c a y16 (by omega) hfa (HMx y16 C16) (HX y16 C16)).mono ?_
            rintro e y17 ⟨rfl, hy17⟩
            have C17 := Below.chain C16 hy17
            go_wp2_with fail
            refine (refPrint_any xa n c a y17 hn hfa (HX y17 C17)).mono ?_
            rintro e y18 ⟨rfl, hy18⟩
            have C18 := Below.chain C17 hy18
            go_wp2_with fail
            go_ret
            exact ⟨rfl, Below.chain hb1 C18⟩
          · go_wp2_with fail
            refine (is_any xa n c a w5 hn hfa (HX w5 B5)).mono ?_
            rintro e y1 ⟨rfl, hy1⟩
            have C1 := Below.chain B5 hy1
            go_wp2_with fail
            refine (refIs_any xa n c a y1 hn hfa (HX y1 C1)).mono ?_
            rintro e y2 ⟨rfl, hy2⟩
            have C2 := Below.chain C1 hy2
            go_wp2_with fail
            refine (name_any s y2 hs).mono ?_
            rintro e y2' ⟨rfl, rfl⟩
            go_wp2_with fail
            refine (refName_any s y2 hs).mono ?_
            rintro e y2' ⟨rfl, rfl⟩
            have D2 := Below.chain hy1 hy2
            go_wp2_with fail
            refine (same_any ao9 N1 cp9 L1 ao11 N1 cp11 L1 y2 (by omega) (by omega) (p9.later D2) (p11.later D2)).mono ?_
            rintro e y50 ⟨rfl, kk5, rfl⟩
            have hy5 := below_drewN (Below.refl y2.heap.size y2) kk5
            have C5 := Below.chain C2 hy5
            rw [same_self]
            generalize y2.drewN kk5 = y5 at *
            have D5 := Below.chain D2 hy5
            go_wp2_with fail
            refine (same_any ao13 N2 cp13 L2 ao15 N2 cp15 L2 y5 (by omega) (by omega) (p13.later D5) (p15.later D5)).mono ?_
            rintro e y60 ⟨rfl, kk6, rfl⟩
            have hy6 := below_drewN (Below.refl y5.heap.size y5) kk6
            have C6 := Below.chain C5 hy6
            rw [same_self]
            generalize y5.drewN kk6 = y6 at *
            go_wp2_with fail
            refine (get_any xa n c a s y6 hn (HX y6 C6)).mono ?_
            rintro e y7 ⟨rfl, hy7⟩
            have C7 := Below.chain C6 hy7
            go_wp2_with fail
            refine (refGet_any xa n c a s y7 hn (HX y7 C7)).mono ?_
            rintro e y7' ⟨rfl, rfl⟩
            go_wp2_with fail
            refine (keep_any xa n c a za k f ns y7 (by omega) hk (HX y7 C7) (HZ y7 C7)).mono ?_
            rintro e y9 ⟨v9, rfl, o9, hy9⟩
            have C9 := Below.chain C7 hy9
            go_wp2_with fail
            refine (refKeep_any xa n c a za k f ns y9 (by omega) hk (HX y9 C9) (HZ y9 C9)).mono ?_
            rintro e y10 ⟨v10, rfl, o10, hy10⟩
            have C10 := Below.chain C9 hy10
            obtain ⟨K9, hK9⟩ : ∃ q, Hid (fKeep a ns = q) := ⟨_, rfl⟩
            rw [hK9.out] at o9 o10
            obtain ⟨M9, hM9⟩ : ∃ N, K9.length = N := ⟨_, rfl⟩
            have hMb9 : M9 ≤ 20 := by rw [← hM9, ← hK9.out]; exact Nat.le_trans (List.length_filter_le _ _) (by rw [HNa.out]; exact hn20)
            obtain ⟨ao9, cp9, rfl, r9, _⟩ := own_slice6 (o9.later hy10) hM9
            obtain ⟨ao10, cp10, rfl, r10, _⟩ := own_slice6 o10 hM9
            clear o9 o10 hM9 hK9
            go_wp2_with fail
            refine (same_any ao9 M9 cp9 K9 ao10 M9 cp10 K9 y10 (by omega) (by omega) r9 r10).mono ?_
            rintro e y110 ⟨rfl, kk11, rfl⟩
            have hy11 := below_drewN (Below.refl y10.heap.size y10) kk11
            have C11 := Below.chain C10 hy11
            rw [same_self]
            generalize y10.drewN kk11 = y11 at *
            go_wp2_with fail
            refine (without_any xa n c a za k f ns y11 (by omega) hk (HX y11 C11) (HZ y11 C11)).mono ?_
            rintro e y12 ⟨v12, rfl, o12, hy12⟩
            have C12 := Below.chain C11 hy12
            go_wp2_with fail
            refine (refWithout_any xa n c a za k f ns y12 (by omega) hk (HX y12 C12) (HZ y12 C12)).mono ?_
            rintro e y13 ⟨v13, rfl, o13, hy13⟩
            have C13 := Below.chain C12 hy13
            obtain ⟨K12, hK12⟩ : ∃ q, Hid (fWithout a ns = q) := ⟨_, rfl⟩
            rw [hK12.out] at o12 o13
            obtain ⟨M12, hM12⟩ : ∃ N, K12.length = N := ⟨_, rfl⟩
            have hMb12 : M12 ≤ 20 := by rw [← hM12, ← hK12.out]; exact Nat.le_trans (List.length_filter_le _ _) (by rw [HNa.out]; exact hn20)
            obtain ⟨ao12, cp12, rfl, r12, _⟩ := own_slice6 (o12.later hy13) hM12
            obtain ⟨ao13, cp13, rfl, r13, _⟩ := own_slice6 o13 hM12
            clear o12 o13 hM12 hK12
            go_wp2_with fail
            refine (same_any ao12 M12 cp12 K12 ao13 M12 cp13 K12 y13 (by omega) (by omega) r12 r13).mono ?_
            rintro e y140 ⟨rfl, kk14, rfl⟩
            have hy14 := below_drewN (Below.refl y13.heap.size y13) kk14
            have C14 := Below.chain C13 hy14
            rw [same_self]
            generalize y13.drewN kk14 = y14 at *
            go_wp2_with fail
            refine (cmp_any xa n c a ya m d b y14 hn hm (HX y14 C14) (HY y14 C14)).mono ?_
            rintro e y15 ⟨rfl, hy15⟩
            have C15 := Below.chain C14 hy15
            go_wp2_with fail
            refine (refCmp_any xa n c a ya m d b y15 hn hm (HX y15 C15) (HY y15 C15)).mono ?_
            rintro e y16 ⟨rfl, hy16⟩
            have C16 := Below.chain C15 hy16
            go_wp2_with fail
            refine (print_any xa n c a y16 (by omega) hfa (HMx y16 C16) (HX y16 C16)).mono ?_
            rintro e y17 ⟨rfl, hy17⟩
            have C17 := Below.chain C16 hy17
            go_wp2_with fail
            refine (refPrint_any xa n c a y17 hn hfa (HX y17 C17)).mono ?_
            rintro e y18 ⟨rfl, hy18⟩
            have C18 := Below.chain C17 hy18
            go_wp2_with fail
            go_ret
            exact ⟨rfl, Below.chain hb1 C18⟩
        · have hs' : (100 : Int) < s.length := by omega
          go_wp2_with fail
          refine hga.mono ?_
          rintro e w2 ⟨rfl, rfl⟩
          go_wp2_with fail
          refine hgb.mono ?_
          rintro e w2 ⟨rfl, rfl⟩
          go_wp2_with fail
          go_ret
          exact ⟨rfl, hb1⟩
      · have hk' : (20 : Int) < k := by omega
        go_wp2_with fail
        refine hga.mono ?_
        rintro e w2 ⟨rfl, rfl⟩
        go_wp2_with fail
        refine hgb.mono ?_
        rintro e w2 ⟨rfl, rfl⟩
        go_wp2_with fail
        go_ret
        exact ⟨rfl, hb1⟩
end Go.Proofs.YtldlhpokkidmlaaGreatDoor
