/- The reference's Is: as the program's. -/
import Derived.Test.YtideieolgjhbiaaGreatDoorRefB
namespace Go.Proofs.YtideieolgjhbiaaGreatDoor
open Go.RowKit

theorem fVal_r (s : Str) : fVal s = (!(s == []) && rVal s) := by
  unfold fVal rVal
  cases s with
  | nil => rfl
  | cons c r =>
    have : (((c :: r) == []) : Bool) = false := rfl
    rw [this]
    simp [Bool.and_comm]
set_option maxRecDepth 100000 in
set_option maxHeartbeats 4000000 in
theorem refIs_any (xa : Option Addr) (n c : Nat) (l : List Pr) (w : World) (hn : n ≤ 9223372036854775807) (hf : Fit l) (hx : Ps w xa n l) :
    Calls Tryz.prog 22 #[.slice xa n c] w fun e w' => e = .returned (.bool (fIs l)) ∧ Below w.heap.size w w' := by
  obtain ⟨hla, hca⟩ := hx
  have HA : Hid (l.length = n) := hla
  clear hla
  go_enter Tryz.func22, Tryz.ntmps22
  go_wp2_with fail
  go_loopw [3] (fun i wr => ∃ j : Nat, j ≤ n ∧ i = .int .i64 j ∧ Hid (∀ i, i < j → okAt l i = true) ∧ Below w.heap.size w wr) (fun i _ => n - (intOf i).toNat)
  case atStart => exact ⟨0, by omega, rfl, fun i h => by omega, Below.refl _ _⟩
  case round =>
    obtain ⟨j, hj, rfl, ht, hb⟩ := hrel
    by_cases hlt : j < n
    · obtain ⟨b1, o1, rfl, h1⟩ := hca (by omega)
      obtain ⟨c10, c11⟩ := h1 j hlt
      have k0 := (hb.cell (p := ⟨b1, o1 + j * 2, none⟩) (World.block_lt_of_cell? _ _ c10)).trans c10
      have k1 := (hb.cell (p := ⟨b1, o1 + j * 2 + 1, none⟩) (World.block_lt_of_cell? _ _ c11)).trans c11
      clear c10 c11
      have HN : Hid (okAt l j = true → ∀ i, i < j + 1 → okAt l i = true) := fun h i hi => by
        by_cases e : i = j
        · rw [e]; exact h
        · exact ht.out i (by omega)
      have HF : Hid (okAt l j = false → fIs l = false) := is_not (by rw [HA.out]; exact hlt)
      have hfa := hf.at j
      have hnm := fun w => refName_any (l.getD j ([], [])).1 w hfa.1
      have hvl := fun w => refValue_any (l.getD j ([], [])).2 w hfa.2
      have HO : Hid (okAt l j = (fName (l.getD j ([], [])).1 && fVal (l.getD j ([], [])).2 && (decide (j = 0) || decide ((l.getD (j - 1) ([], [])).1 < (l.getD j ([], [])).1)))) := rfl
      clear hfa
      by_cases h0 : j = 0
      · have h0' : ¬ (0 : Int) < j := by omega
        have h0d : decide (0 < j) = false := decide_eq_false (by omega)
        have HO' : Hid (okAt l j = (fName (l.getD j ([], [])).1 && fVal (l.getD j ([], [])).2)) := by
          show _ = _
          rw [HO.out, h0]; simp
        clear h1 hca HO h0 ht
        generalize okAt l j = ok at *
        generalize l.getD j ([], []) = p at *
        obtain ⟨p1, p2⟩ := p
        dsimp only at *
        cases hN : fName p1 with
        | false =>
          have HR : Hid (fIs l = false) := HF.out (by rw [HO'.out, hN]; rfl)
          rw [hN] at hnm
          clear HO' HF HN hN
          go_wp2
          go_quiet ((first | (go_at_call 30; exact quiet_eq (hnm _)) | (go_at_call 31; exact quiet_eq (hvl _))))
          go_wp2
          go_ret
          exact ⟨by rw [HR.out]; rfl, below_drewN hb _⟩
        | true =>
          rw [hN] at hnm
          by_cases hE : p2 = []
          · have HR : Hid (fIs l = false) := HF.out (by rw [HO'.out, hN, fVal_r, hE]; rfl)
            have hE' : (p2 == []) = true := by simpa using hE
            clear HO' HF HN hN hE
            go_wp2
            go_quiet ((first | (go_at_call 30; exact quiet_eq (hnm _)) | (go_at_call 31; exact quiet_eq (hvl _))))
            go_wp2
            go_ret
            exact ⟨by rw [HR.out]; rfl, below_drewN hb _⟩
          · have hE' : (p2 == []) = false := by simpa using hE
            cases hV : rVal p2 with
            | false =>
              have HR : Hid (fIs l = false) := HF.out (by rw [HO'.out, hN, fVal_r, hV]; simp)
              rw [hV] at hvl
              clear HO' HF HN hN hE hV
              go_wp2
              go_quiet ((first | (go_at_call 30; exact quiet_eq (hnm _)) | (go_at_call 31; exact quiet_eq (hvl _))))
              go_wp2
              go_ret
              exact ⟨by rw [HR.out]; rfl, below_drewN hb _⟩
            | true =>
              have HR : Hid (∀ i, i < j + 1 → okAt l i = true) := HN.out (by rw [HO'.out, hN, fVal_r, hV]; simp [hE])
              rw [hV] at hvl
              clear HO' HF HN hN hE hV
              go_wp2
              go_quiet ((first | (go_at_call 30; exact quiet_eq (hnm _)) | (go_at_call 31; exact quiet_eq (hvl _))))
              go_wp2
              go_roundw
              case rel => exact ⟨j + 1, by omega, by go_num, HR, below_drewN hb _⟩
              case measure => simp [intOf]; omega
      · obtain ⟨k, rfl⟩ : ∃ k, j = k + 1 := ⟨j - 1, by omega⟩
        obtain ⟨c00, _⟩ := h1 k (by omega)
        have kk := (hb.cell (p := ⟨b1, o1 + k * 2, none⟩) (World.block_lt_of_cell? _ _ c00)).trans c00
        clear c00
        have HO' : Hid (okAt l (k + 1) = (fName (l.getD (k + 1) ([], [])).1 && fVal (l.getD (k + 1) ([], [])).2 && decide ((l.getD k ([], [])).1 < (l.getD (k + 1) ([], [])).1))) := by
          show _ = _
          rw [HO.out]; simp
        have h0d : decide ((0 : Int) < ((k + 1 : Nat) : Int)) = true := decide_eq_true (by omega)
        have hlss := less_eq (l.getD k ([], [])).1 (l.getD (k + 1) ([], [])).1
        clear h1 hca HO h0 ht
        generalize okAt l (k + 1) = ok at *
        generalize l.getD (k + 1) ([], []) = p at *
        generalize l.getD k ([], []) = q at *
        obtain ⟨p1, p2⟩ := p
        obtain ⟨q1, q2⟩ := q
        dsimp only at *
        cases hN : fName p1 with
        | false =>
          have HR : Hid (fIs l = false) := HF.out (by rw [HO'.out, hN]; rfl)
          rw [hN] at hnm
          clear HO' HF HN hN hlss
          go_wp2
          go_quiet ((first | (go_at_call 30; exact quiet_eq (hnm _)) | (go_at_call 31; exact quiet_eq (hvl _))))
          go_wp2
          go_ret
          exact ⟨by rw [HR.out]; rfl, below_drewN hb _⟩
        | true =>
          rw [hN] at hnm
          by_cases hE : p2 = []
          · have HR : Hid (fIs l = false) := HF.out (by rw [HO'.out, hN, fVal_r, hE]; rfl)
            have hE' : (p2 == []) = true := by simpa using hE
            clear HO' HF HN hN hE hlss
            go_wp2
            go_quiet ((first | (go_at_call 30; exact quiet_eq (hnm _)) | (go_at_call 31; exact quiet_eq (hvl _))))
            go_wp2
            go_ret
            exact ⟨by rw [HR.out]; rfl, below_drewN hb _⟩
          · have hE' : (p2 == []) = false := by simpa using hE
            cases hV : rVal p2 with
            | false =>
              have HR : Hid (fIs l = false) := HF.out (by rw [HO'.out, hN, fVal_r, hV]; simp)
              rw [hV] at hvl
              clear HO' HF HN hN hE hV hlss
              go_wp2
              go_quiet ((first | (go_at_call 30; exact quiet_eq (hnm _)) | (go_at_call 31; exact quiet_eq (hvl _))))
              go_wp2
              go_ret
              exact ⟨by rw [HR.out]; rfl, below_drewN hb _⟩
            | true =>
              rw [hV] at hvl
              by_cases hq : q1 < p1
              · have HR : Hid (∀ i, i < k + 1 + 1 → okAt l i = true) := HN.out (by rw [HO'.out, hN, fVal_r, hV]; simp [hE, hq])
                rw [decide_eq_true hq] at hlss
                clear HO' HF HN hN hE hV hq
                go_wp2
                go_quiet ((first | (go_at_call 30; exact quiet_eq (hnm _)) | (go_at_call 31; exact quiet_eq (hvl _))))
                go_wp2
                go_roundw
                case rel => exact ⟨k + 1 + 1, by omega, by go_num, HR, below_drewN hb _⟩
                case measure => simp [intOf]; omega
              · have HR : Hid (fIs l = false) := HF.out (by rw [HO'.out, hN, fVal_r, hV]; simp [hq])
                rw [decide_eq_false hq] at hlss
                clear HO' HF HN hN hE hV hq
                go_wp2
                go_quiet ((first | (go_at_call 30; exact quiet_eq (hnm _)) | (go_at_call 31; exact quiet_eq (hvl _))))
                go_wp2
                go_ret
                exact ⟨by rw [HR.out]; rfl, below_drewN hb _⟩
    · have HT' : Hid (decide (n ≤ 8) = fIs l) := by
        show _ = _
        by_cases h8 : n ≤ 8
        · rw [is_all (by rw [HA.out]; omega) (fun i hi => ht.out i (by rw [HA.out] at hi; omega)), decide_eq_true h8]
        · unfold fIs
          rw [decide_eq_false h8, decide_eq_false (by rw [HA.out]; omega)]
          rfl
      by_cases h8 : n ≤ 8
      · have h8' : (n : Int) ≤ 8 := by omega
        have HR : Hid (fIs l = true) := by show _ = _; rw [← HT'.out]; simp [h8]
        clear HT' h8
        go_wp2_with fail
        go_ret
        exact ⟨by rw [HR.out]; rfl, hb⟩
      · have h8' : ¬ (n : Int) ≤ 8 := by omega
        have HR : Hid (fIs l = false) := by show _ = _; rw [← HT'.out]; simp [h8]
        clear HT' h8
        go_wp2_with fail
        go_ret
        exact ⟨by rw [HR.out]; rfl, hb⟩
end Go.Proofs.YtideieolgjhbiaaGreatDoor
