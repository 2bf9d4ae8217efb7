/- isValue, Is: each for every argument. -/
import Derived.Test.YtideieolgjhbiaaGreatDoorSame
import Derived.Test.YtideieolgjhbiaaGreatDoorShelfA
namespace Go.Proofs.YtideieolgjhbiaaGreatDoor
open Go.RowKit

theorem quiet_eq {P : Program} {f : FuncId} {args : Array Value} {w : World} {n : Nat} {v : Value} (h : Calls P f args (w.drewN n) fun e w' => e = .returned v ∧ w.drewN n = w') : Calls P f args (w.drewN n) fun e w'' => e = .returned v ∧ ∃ m, w'' = w.drewN m :=
  h.mono fun _ _ ⟨he, hm⟩ => ⟨he, n, hm.symm⟩
theorem byte_in (l : Str) (c : UInt8) : decide (0 ≤ Lib.indexByte l c) = l.contains c := by
  induction l with
  | nil => rfl
  | cons x l ih =>
    rw [Lib.indexByte, List.contains_cons]
    by_cases h : x = c
    · subst h; simp
    · have h' : ¬ c = x := fun e => h e.symm
      have hge : -1 ≤ Lib.indexByte l c := by
        clear ih
        induction l with
        | nil => simp [Lib.indexByte]
        | cons y l ih =>
          rw [Lib.indexByte]
          split
          · omega
          · split <;> omega
      rw [← ih]
      by_cases h2 : Lib.indexByte l c = -1
      · simp [h, h', h2]
      · have h3 : (Lib.indexByte l c == -1) = false := by simpa using h2
        have h4 : (x == c) = false := by simpa using h
        have h5 : (c == x) = false := by simpa using h'
        rw [h3, h4, h5, if_neg (by simp), if_neg (by simp), Bool.false_or, decide_eq_decide]
        omega
theorem contains_any (s : Str) (w : World) : Calls Tryz.prog 50 #[tx s, .string ⟨#[10]⟩] w fun e w' => e = .returned (.bool (s.contains 10)) ∧ w = w' := by
  refine (Tryz.strings_Contains_one ⟨s.toArray⟩ 10 w).mono ?_
  rintro e w' ⟨rfl, rfl⟩
  exact ⟨by rw [← byte_in], rfl⟩
theorem isValue_any (s : Str) (w : World) (hl : s.length ≤ 9223372036854775807) : Calls Tryz.prog 36 #[tx s] w fun e w' => e = .returned (.bool (fVal s)) ∧ w = w' := by
  have hc := contains_any s
  unfold fVal
  by_cases h1 : 1 ≤ s.length
  · have h1' : (1 : Int) ≤ s.length := by omega
    by_cases h2 : s.length ≤ 30
    · have h2' : (s.length : Int) ≤ 30 := by omega
      generalize s.contains 10 = r at *
      go_enter Tryz.func36, Tryz.ntmps36
      go_wp2_with (go_at_call 50; refine (hc _).mono ?_; rintro e w' ⟨rfl, rfl⟩)
      go_ret
      exact ⟨by simp [h1, h2], rfl⟩
    · have h2' : ¬ (s.length : Int) ≤ 30 := by omega
      go_enter Tryz.func36, Tryz.ntmps36
      go_wp2
      go_ret
      exact ⟨by simp, rfl⟩
  · have h1' : ¬ (1 : Int) ≤ s.length := by omega
    go_enter Tryz.func36, Tryz.ntmps36
    go_wp2
    go_ret
    exact ⟨by simp, rfl⟩

theorem is_not {l : List Pr} {j : Nat} (hj : j < l.length) (h : okAt l j = false) : fIs l = false := by
  cases hi : fIs l with
  | false => rfl
  | true =>
    unfold fIs at hi
    rw [Bool.and_eq_true] at hi
    rw [List.all_eq_true.1 hi.2 j (List.mem_range.2 hj)] at h
    cases h
theorem is_all {l : List Pr} (h8 : l.length ≤ 8) (h : ∀ i, i < l.length → okAt l i = true) : fIs l = true := by
  unfold fIs
  rw [Bool.and_eq_true]
  exact ⟨decide_eq_true h8, List.all_eq_true.2 fun i hi => h i (List.mem_range.1 hi)⟩

set_option maxHeartbeats 2000000 in
theorem is_any (xa : Option Addr) (n c : Nat) (l : List Pr) (w : World) (hn : n ≤ 9223372036854775807) (hf : Fit l) (hx : Ps w xa n l) :
    Calls Tryz.prog 17 #[.slice xa n c] w fun e w' => e = .returned (.bool (fIs l)) ∧ Below w.heap.size w w' := by
  obtain ⟨hla, hca⟩ := hx
  have HA : Hid (l.length = n) := hla
  clear hla
  by_cases h8 : n ≤ 8
  · have h8' : ¬ (8 : Int) < n := by omega
    go_enter Tryz.func17, Tryz.ntmps17
    go_wp2
    go_loopw [10] (fun i wr => ∃ j : Nat, j ≤ n ∧ i = .int .i64 j ∧ Hid (∀ i, i < j → okAt l i = true) ∧ Below w.heap.size w wr) (fun i _ => n - (intOf i).toNat)
    case atStart => exact ⟨0, by omega, rfl, fun i h => by omega, Below.refl _ _⟩
    case round =>
      obtain ⟨j, hj, rfl, ht, hb⟩ := hrel
      by_cases hlt : j < n
      · obtain ⟨b1, o1, rfl, h1⟩ := hca (by omega)
        obtain ⟨c10, c11⟩ := h1 j hlt
        have k0 := (hb.cell (p := ⟨b1, o1 + j * 2, none⟩) (World.block_lt_of_cell? _ _ c10)).trans c10
        have k1 := (hb.cell (p := ⟨b1, o1 + j * 2 + 1, none⟩) (World.block_lt_of_cell? _ _ c11)).trans c11
        have HN : Hid (okAt l j = true → ∀ i, i < j + 1 → okAt l i = true) := fun h i hi => by
          by_cases e : i = j
          · rw [e]; exact h
          · exact ht.out i (by omega)
        have HF : Hid (okAt l j = false → fIs l = false) := is_not (by rw [HA.out]; exact hlt)
        have hfa := hf.at j
        have hnm := fun w => name_any (l.getD j ([], [])).1 w hfa.1
        have hvl := fun w => isValue_any (l.getD j ([], [])).2 w hfa.2
        have HO : Hid (okAt l j = (fName (l.getD j ([], [])).1 && fVal (l.getD j ([], [])).2 && (decide (j = 0) || decide ((l.getD (j - 1) ([], [])).1 < (l.getD j ([], [])).1)))) := rfl
        have hb1 : ∀ o, Below w.heap.size w (wr.alloc o) := bal hb
        clear hfa
        by_cases h0 : j = 0
        · have h0' : ¬ (0 : Int) < j := by omega
          have h0d : decide (0 < j) = false := decide_eq_false (by omega)
          have HO' : Hid (okAt l j = (fName (l.getD j ([], [])).1 && fVal (l.getD j ([], [])).2)) := by
            show _ = _
            rw [HO.out, h0]; simp
          clear h1 hca c10 c11 HO
          generalize okAt l j = ok at *
          generalize l.getD j ([], []) = p at *
          obtain ⟨p1, p2⟩ := p
          dsimp only at *
          cases hN : fName p1 with
          | false =>
            have HR : Hid (fIs l = false) := HF.out (by rw [HO'.out, hN]; rfl)
            rw [hN] at hnm
            clear HO' HF HN hN h0
            go_wp2
            go_quiet ((first | (go_at_call 35; exact quiet_eq (hnm _)) | (go_at_call 36; exact quiet_eq (hvl _))))
            go_wp2
            go_ret
            exact ⟨by rw [HR.out]; rfl, below_drewN (hb1 _) _⟩
          | true =>
            rw [hN] at hnm
            cases hV : fVal p2 with
            | false =>
              have HR : Hid (fIs l = false) := HF.out (by rw [HO'.out, hN, hV]; rfl)
              rw [hV] at hvl
              clear HO' HF HN hN hV h0
              go_wp2
              go_quiet ((first | (go_at_call 35; exact quiet_eq (hnm _)) | (go_at_call 36; exact quiet_eq (hvl _))))
              go_wp2
              go_ret
              exact ⟨by rw [HR.out]; rfl, below_drewN (hb1 _) _⟩
            | true =>
              have HR : Hid (∀ i, i < j + 1 → okAt l i = true) := HN.out (by rw [HO'.out, hN, hV]; rfl)
              rw [hV] at hvl
              clear HO' HF HN hN hV h0
              go_wp2
              go_quiet ((first | (go_at_call 35; exact quiet_eq (hnm _)) | (go_at_call 36; exact quiet_eq (hvl _))))
              go_wp2
              go_roundw
              case rel => exact ⟨j + 1, by omega, by go_num, HR, below_drewN (hb1 _) _⟩
              case measure => simp [intOf]; omega
        · obtain ⟨k, rfl⟩ : ∃ k, j = k + 1 := ⟨j - 1, by omega⟩
          obtain ⟨c00, _⟩ := h1 k (by omega)
          have kk := (hb.cell (p := ⟨b1, o1 + k * 2, none⟩) (World.block_lt_of_cell? _ _ c00)).trans c00
          have kn : ∀ o, (wr.alloc o).cell? ⟨b1, o1 + k * 2, none⟩ = some (tx (l.getD k ([], [])).1) := fun o => ((bal (Below.refl _ wr) o).cell (p := ⟨b1, o1 + k * 2, none⟩) (World.block_lt_of_cell? _ _ kk)).trans kk
          have HO' : Hid (okAt l (k + 1) = (fName (l.getD (k + 1) ([], [])).1 && fVal (l.getD (k + 1) ([], [])).2 && decide ((l.getD k ([], [])).1 < (l.getD (k + 1) ([], [])).1))) := by
            show _ = _
            rw [HO.out]; simp
          have h0d : decide ((0 : Int) < ((k + 1 : Nat) : Int)) = true := decide_eq_true (by omega)
          have hlss := less_eq (l.getD k ([], [])).1 (l.getD (k + 1) ([], [])).1
          clear h1 hca c10 c11 HO c00 kk
          generalize okAt l (k + 1) = ok at *
          generalize l.getD (k + 1) ([], []) = p at *
          generalize l.getD k ([], []) = q at *
          obtain ⟨p1, p2⟩ := p
          obtain ⟨q1, q2⟩ := q
          dsimp only at *
          cases hN : fName p1 with
          | false =>
            have HR : Hid (fIs l = false) := HF.out (by rw [HO'.out, hN]; rfl)
            rw [hN] at hnm
            clear HO' HF HN hN h0 hlss
            go_wp2
            go_quiet ((first | (go_at_call 35; exact quiet_eq (hnm _)) | (go_at_call 36; exact quiet_eq (hvl _))))
            go_wp2
            go_ret
            exact ⟨by rw [HR.out]; rfl, below_drewN (hb1 _) _⟩
          | true =>
            rw [hN] at hnm
            cases hV : fVal p2 with
            | false =>
              have HR : Hid (fIs l = false) := HF.out (by rw [HO'.out, hN, hV]; rfl)
              rw [hV] at hvl
              clear HO' HF HN hN hV h0 hlss
              go_wp2
              go_quiet ((first | (go_at_call 35; exact quiet_eq (hnm _)) | (go_at_call 36; exact quiet_eq (hvl _))))
              go_wp2
              go_ret
              exact ⟨by rw [HR.out]; rfl, below_drewN (hb1 _) _⟩
            | true =>
              rw [hV] at hvl
              by_cases hq : q1 < p1
              · have HR : Hid (∀ i, i < k + 1 + 1 → okAt l i = true) := HN.out (by rw [HO'.out, hN, hV]; simpa using hq)
                rw [decide_eq_true hq] at hlss
                clear HO' HF HN hN hV h0 hq
                go_wp2
                go_quiet ((first | (go_at_call 35; exact quiet_eq (hnm _)) | (go_at_call 36; exact quiet_eq (hvl _))))
                go_wp2
                go_roundw
                case rel => exact ⟨k + 1 + 1, by omega, by go_num, HR, below_drewN (hb1 _) _⟩
                case measure => simp [intOf]; omega
              · have HR : Hid (fIs l = false) := HF.out (by rw [HO'.out, hN, hV]; simpa using hq)
                rw [decide_eq_false hq] at hlss
                clear HO' HF HN hN hV h0 hq
                go_wp2
                go_quiet ((first | (go_at_call 35; exact quiet_eq (hnm _)) | (go_at_call 36; exact quiet_eq (hvl _))))
                go_wp2
                go_ret
                exact ⟨by rw [HR.out]; rfl, below_drewN (hb1 _) _⟩
      · have HT' : Hid (fIs l = true) := is_all (by rw [HA.out]; omega) (fun i hi => ht.out i (by rw [HA.out] at hi; omega))
        go_wp2
        go_ret
        exact ⟨by rw [HT'.out]; rfl, hb⟩
  · have h8' : (8 : Int) < n := by omega
    have HT' : Hid (fIs l = false) := by
      show _ = _
      unfold fIs
      rw [decide_eq_false (by rw [HA.out]; omega)]
      rfl
    go_enter Tryz.func17, Tryz.ntmps17
    go_wp2
    go_ret
    exact ⟨by rw [HT'.out]; rfl, Below.refl _ _⟩
end Go.Proofs.YtideieolgjhbiaaGreatDoor
