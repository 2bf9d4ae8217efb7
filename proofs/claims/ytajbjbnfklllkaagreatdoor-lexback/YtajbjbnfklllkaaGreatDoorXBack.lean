/- LexBack: for every text. -/
import Derived.Test.YtajbjbnfklllkaaGreatDoorXRefPr
import Derived.Test.YtajbjbnfklllkaaGreatDoorXKnown
import Derived.Test.YtajbjbnfklllkaaGreatDoorXSame
namespace Go.Proofs.YtajbjbnfklllkaaGreatDoor
open Go.RowKit

theorem z1 : (-9223372036854775808 : Int) ≤ 0 := by decide
theorem z2 : (0 : Int) ≤ 9223372036854775807 := by decide
theorem ok_fine {x : Tk} (h : Okt x) : FineR x := by
  rcases h with ⟨s, hs, rfl⟩ | ⟨v, v0, v1, rfl⟩ | ⟨n, n0, n1, rfl⟩ | ⟨s, s0, s1, rfl⟩ | ⟨s, hs, rfl⟩
  · have := name_len hs
    exact ⟨by show s.length ≤ 1000; omega, z1, z2, Int.le_refl 0, z2⟩
  · exact ⟨Nat.zero_le _, by show _ ≤ v; omega, v1, Int.le_refl 0, z2⟩
  · exact ⟨Nat.zero_le _, z1, z2, by show (0 : Int) ≤ n; omega, by show (n : Int) ≤ _; omega⟩
  · exact ⟨by show s.length ≤ 1000; omega, z1, z2, Int.le_refl 0, z2⟩
  · have := sign_len hs
    exact ⟨by show s.length ≤ 1000; omega, z1, z2, Int.le_refl 0, z2⟩
theorem fine_put {x : Tk} (h : FineR x) (p : Int) : FineR (x.put p) := ⟨h.t, h.n0, h.n1, h.d0, h.d1⟩
theorem FineR.fine {x : Tk} (h : FineR x) : FineT x := ⟨h.t, h.n0, h.n1, by have := h.d0; omega, h.d1⟩
theorem scL_fine (s : Str) : ∀ x ∈ scL s, FineR x := by
  intro x hx
  by_cases hb : 600 < s.length
  · rw [(sc_big hb).2.2] at hx
    simp at hx
  · rcases sc_cases (s := s) (by omega) with ⟨p, _, _, _, e4⟩ | ⟨l, e1, _, _, e4⟩
    · rw [e4] at hx
      simp at hx
    · rw [e4] at hx
      rcases List.mem_append.1 hx with hx | hx
      · obtain ⟨_, f2, _⟩ := (scanG_facts s.length (lead s).length (lead s) (Nat.le_refl _) (lead_le s)).2 l e1
        obtain ⟨y, p, h1, rfl, _, _⟩ := f2 x hx
        exact fine_put (ok_fine h1) p
      · simp at hx
        subst hx
        exact ⟨Nat.zero_le _, z1, z2, Int.le_refl 0, z2⟩
theorem scL_none {s : Str} (h : scE s ≠ 0) : scL s = [] := by
  by_cases hb : 600 < s.length
  · exact (sc_big hb).2.2
  · rcases sc_cases (s := s) (by omega) with ⟨p, _, _, _, e4⟩ | ⟨l, _, e2, _, _⟩
    · exact e4
    · exact absurd e2 h
set_option maxHeartbeats 8000000 in
set_option maxRecDepth 20000 in
theorem back_any (s : Str) (w : World) (hs : s.length ≤ 9223372036854775807) (he : Ev w) : Calls Tryz.prog 4 #[tx s] w fun e w' => e = .returned (.bool true) ∧ Below w.heap.size w w' := by
  have hk := known_any w he
  by_cases h2 : 250 < s.length
  · have h2' : (250 : Int) < s.length := by omega
    clear h2
    go_enter Tryz.func4, Tryz.ntmps4
    go_wp2_with fail
    refine hk.mono ?_
    rintro e w1 ⟨rfl, hb1⟩
    go_wp2
    go_ret
    exact ⟨rfl, hb1⟩
  · have h2' : ¬ (250 : Int) < s.length := by omega
    have hs1 := fun W (hW : Ev W) => scan_any s W (by omega) hW
    by_cases h0 : scE s = 0
    · have HB : Hid _ := back (s := s) (by omega) h0
      have HF1 : Hid _ := scL_fine s
      have HF2 : Hid _ := scL_fine (prL (scL s))
      have HC1 := (scL_facts s).1
      have HC2 := (scL_facts (prL (scL s))).1
      rw [h0] at hs1
      have hle := HB.out.2.2.2.1
      have hs2 := fun W (hW : Ev W) => scan_any (prL (scL s)) W (by omega) hW
      rw [HB.out.1] at hs2
      have hc1 : (scL s).length ≤ 251 := by omega
      have hc2 : (scL (prL (scL s))).length ≤ 501 := by omega
      clear h0 h2 HC1 HC2
      go_enter Tryz.func4, Tryz.ntmps4
      go_wp2_with fail
      refine hk.mono ?_
      rintro e w1 ⟨rfl, hb1⟩
      go_wp2_with fail
      refine (hs1 _ (he.later hb1)).mono ?_
      rintro e w2 ⟨v1, rfl, ho1, hb2⟩
      have B2 := Below.chain hb1 hb2
      obtain ⟨ao1, cap1, rfl, hts1, hcp1, _⟩ := ho1.slice
      have hp1 := print_any ao1 (scL s).length cap1 (scL s) w2 (by omega) hts1 (fun x hx => (HF1.out x hx).fine) (by omega) (he.later B2)
      have hr1 := fun W (hW : Below w2.heap.size w2 W) => refPrint_any ao1 (scL s).length cap1 (scL s) W (by omega) (hts1.later hW) HF1.out (by have := HB.out.2.2.2.2; omega)
      have HM : Hid ((scL s).map (vu false) = (scL (prL (scL s))).map (vu false)) := HB.out.2.1
      have HP2 : Hid (prL (scL (prL (scL s))) = prL (scL s)) := HB.out.2.2.1
      clear HB ho1 hs1 hk
      generalize scP s = P1 at *
      generalize scP (prL (scL s)) = P2 at *
      generalize hLM : scL (prL (scL s)) = M at *
      clear hLM
      generalize hTT : prL (scL s) = T at *
      clear hTT
      generalize scL s = L at *
      obtain ⟨n1, hn1⟩ : ∃ n1, L.length = n1 := ⟨_, rfl⟩
      rw [hn1] at hts1 hcp1 hp1 hr1 hc1 ⊢
      have HN1 : Hid (L.length = n1) := hn1
      clear hn1
      go_wp2_with fail
      refine hp1.mono ?_
      rintro e w3 ⟨rfl, hb3⟩
      have B3 := Below.chain B2 hb3
      go_wp2_with fail
      refine (hs2 _ (he.later B3)).mono ?_
      rintro e w4 ⟨v2, rfl, ho2, hb4⟩
      have B4 := Below.chain B3 hb4
      have C4 := Below.chain hb3 hb4
      obtain ⟨ao2, cap2, rfl, hts2, hcp2, _⟩ := ho2.slice
      obtain ⟨n2, hn2⟩ : ∃ n2, M.length = n2 := ⟨_, rfl⟩
      rw [hn2] at hts2 hcp2 hc2 ⊢
      have HN2 : Hid (M.length = n2) := hn2
      clear hn2 ho2 hs2
      go_wp2_with fail
      refine (hr1 _ C4).mono ?_
      rintro e w5 ⟨rfl, hb5⟩
      have B5 := Below.chain B4 hb5
      have C5 := Below.chain C4 hb5
      have hsm := same_any ao1 ao2 n1 n2 cap1 cap2 L M false w5 (by omega) (hts1.later C5) (hts2.later hb5) HM.out
      go_wp2_with fail
      refine hsm.mono ?_
      rintro e w6 ⟨rfl, hb6⟩
      have B6 := Below.chain B5 hb6
      have hp2 := print_any ao2 n2 cap2 M w6 (by omega) ((hts2.later hb5).later hb6) (fun x hx => (HF2.out x hx).fine) (by rw [HP2.out]; omega) (he.later B6)
      rw [HP2.out] at hp2
      go_wp2_with fail
      refine hp2.mono ?_
      rintro e w7 ⟨rfl, hb7⟩
      have B7 := Below.chain B6 hb7
      go_wp2
      go_ret
      exact ⟨rfl, B7⟩
    · have t1 : (scE s != 0) = true := by rw [bne_iff_ne]; exact h0
      have t2 : (scE s == 0) = false := by rw [beq_eq_false_iff_ne]; exact h0
      have HN := scL_none h0
      rw [HN] at hs1
      clear HN h0 h2
      generalize scE s = E at *
      go_enter Tryz.func4, Tryz.ntmps4
      go_wp2_with fail
      refine hk.mono ?_
      rintro e w1 ⟨rfl, hb1⟩
      go_wp2_with fail
      refine (hs1 _ (he.later hb1)).mono ?_
      rintro e w2 ⟨v1, rfl, ho1, hb2⟩
      obtain ⟨ao1, cap1, rfl, _, _, _⟩ := ho1.slice
      have B2 := Below.chain hb1 hb2
      go_wp2
      go_ret
      exact ⟨rfl, B2⟩
end Go.Proofs.YtajbjbnfklllkaaGreatDoor
