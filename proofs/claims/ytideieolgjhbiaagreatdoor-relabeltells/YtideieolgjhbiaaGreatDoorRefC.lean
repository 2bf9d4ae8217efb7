
/- The reference's Quote and ident. -/
import Derived.Test.YtideieolgjhbiaaGreatDoorRefA
namespace Go.Proofs.YtideieolgjhbiaaGreatDoor
open Go.RowKit

theorem ex_one (s : Str) (k : Nat) (h : k < s.length) : (⟨s.toArray⟩ : ByteArray).extract k (k + 1) = ⟨[s[k]].toArray⟩ := by
  rw [Lib.extract_eq]
  congr 2
  rw [List.drop_eq_getElem_cons h, Nat.add_sub_cancel_left]
  rfl
theorem esc_take {s : Str} {k : Nat} (h : k < s.length) : esc (s.take (k + 1)) = esc (s.take k) ++ escC s[k] := by
  rw [take_snocB s k h]
  show (s.take k ++ [s[k]]).flatMap escC = (s.take k).flatMap escC ++ escC s[k]
  rw [List.flatMap_append, List.flatMap_singleton]
set_option maxHeartbeats 1000000 in
theorem refQuote_any (s : Str) (w : World) (hl : s.length ≤ 1000) :
    Calls Tryz.prog 33 #[tx s] w fun e w' => e = .returned (tx ([34] ++ esc s ++ [34])) ∧ w = w' := by
  go_enter Tryz.func33, Tryz.ntmps33
  go_wp2_with fail
  go_loop [4, 3] (fun i u => ∃ (k : Nat) (t : Str), k ≤ s.length ∧ i = .int .i64 k ∧ u = tx t ∧ Hid (t = [34] ++ esc (s.take k)) ∧ t.length ≤ 1 + 2 * k) (fun i _ => s.length - (intOf i).toNat)
  case atStart => exact ⟨0, [34], by omega, rfl, rfl, rfl, by simp⟩
  case round =>
    obtain ⟨k, t, hk, rfl, rfl, HT, ht⟩ := hrel
    by_cases hlt : k < s.length
    · have hbk := ba_lt hlt
      have HC : Hid (s[k] = (⟨s.toArray⟩ : ByteArray)[k]'hbk) := rfl
      have hex := ex_one s k hlt
      have HE : Hid _ := esc_take hlt
      have hwr : IntKind.i64.wrap ((k : Int) + 1) = (k : Int) + 1 := by rw [IntKind.wrap_i64]; omega
      have hi1 : (k : Int) + 1 ≤ s.length := by omega
      have hi2 : ¬ ((k : Int) + 1 < 0) := by omega
      have hi3 : ((k : Int) + 1).toNat = k + 1 := by omega
      have hi4 : (k : Int) ≤ (k : Int) + 1 := by omega
      have a1 : (⟨t.toArray⟩ : ByteArray) ++ ⟨#[92]⟩ = ⟨(t ++ [92]).toArray⟩ := ba_append t [92]
      by_cases hc : ((⟨s.toArray⟩ : ByteArray)[k]'hbk).toNat = 34 ∨ ((⟨s.toArray⟩ : ByteArray)[k]'hbk).toNat = 92
      · have HN : Hid ((t ++ [92]) ++ [s[k]] = [34] ++ esc (s.take (k + 1))) := by
          show _ = _
          rw [HE.out, HT.out]
          have : escC s[k] = [92, s[k]] := by
            unfold escC
            rw [if_pos]
            rcases hc with h | h
            · exact Or.inr (UInt8.toNat_inj.1 h)
            · exact Or.inl (UInt8.toNat_inj.1 h)
          rw [this]
          simp
        have a2 : (⟨(t ++ [92]).toArray⟩ : ByteArray) ++ ⟨[s[k]].toArray⟩ = ⟨((t ++ [92]) ++ [s[k]]).toArray⟩ := ba_append _ _
        have hn1 : (t ++ [92]).length ≤ 2 + 2 * k := by simp; omega
        have hn2 : ((t ++ [92]) ++ [s[k]]).length ≤ 1 + 2 * (k + 1) := by simp; omega
        generalize s[k] = y at *
        obtain ⟨r, hr⟩ : ∃ r, r = t ++ [92] := ⟨_, rfl⟩
        rw [← hr] at a1 a2 HN hn1 hn2
        obtain ⟨r2, hr2⟩ : ∃ r2, r2 = r ++ [y] := ⟨_, rfl⟩
        rw [← hr2] at a2 HN hn2
        clear hr hr2 HT HE HC
        rcases hc with h | h
        · have hc' : ((((⟨s.toArray⟩ : ByteArray)[k]'hbk).toNat : Int) == 34) = true := by rw [beq_iff_eq]; omega
          clear h
          go_wp2
          go_round
          case rel => exact ⟨k + 1, r2, by omega, by go_num, rfl, HN, hn2⟩
          case measure => simp [intOf]; omega
        · have hc' : ((((⟨s.toArray⟩ : ByteArray)[k]'hbk).toNat : Int) == 34) = false := by rw [beq_eq_false_iff_ne]; omega
          have hc2 : ((((⟨s.toArray⟩ : ByteArray)[k]'hbk).toNat : Int) == 92) = true := by rw [beq_iff_eq]; omega
          clear h
          go_wp2
          go_round
          case rel => exact ⟨k + 1, r2, by omega, by go_num, rfl, HN, hn2⟩
          case measure => simp [intOf]; omega
      · have HN : Hid (t ++ [s[k]] = [34] ++ esc (s.take (k + 1))) := by
          show _ = _
          rw [HE.out, HT.out]
          have : escC s[k] = [s[k]] := by
            unfold escC
            rw [if_neg]
            rintro (h | h)
            · exact hc (Or.inr (by rw [← HC.out, h]; rfl))
            · exact hc (Or.inl (by rw [← HC.out, h]; rfl))
          rw [this]
          simp
        have a2 : (⟨t.toArray⟩ : ByteArray) ++ ⟨[s[k]].toArray⟩ = ⟨(t ++ [s[k]]).toArray⟩ := ba_append _ _
        have hn2 : (t ++ [s[k]]).length ≤ 1 + 2 * (k + 1) := by simp; omega
        have hc' : ((((⟨s.toArray⟩ : ByteArray)[k]'hbk).toNat : Int) == 34) = false := by rw [beq_eq_false_iff_ne]; omega
        have hc2 : ((((⟨s.toArray⟩ : ByteArray)[k]'hbk).toNat : Int) == 92) = false := by rw [beq_eq_false_iff_ne]; omega
        generalize s[k] = y at *
        obtain ⟨r2, hr2⟩ : ∃ r2, r2 = t ++ [y] := ⟨_, rfl⟩
        rw [← hr2] at a2 HN hn2
        clear hr2 HT HE HC hc a1
        go_wp2
        go_round
        case rel => exact ⟨k + 1, r2, by omega, by go_num, rfl, HN, hn2⟩
        case measure => simp [intOf]; omega
    · have HR : Hid (t = [34] ++ esc s) := by show _ = _; rw [HT.out, List.take_of_length_le (by omega)]
      have a1 : (⟨t.toArray⟩ : ByteArray) ++ ⟨#[34]⟩ = ⟨(t ++ [34]).toArray⟩ := ba_append t [34]
      have HT2 : Hid (t ++ [34] = 34 :: (esc s ++ [34])) := by show _ = _; rw [HR.out]; simp
      obtain ⟨r, hr⟩ : ∃ r, r = t ++ [34] := ⟨_, rfl⟩
      rw [← hr] at a1 HT2
      clear HR HT hr
      go_wp2_with fail
      go_ret
      exact ⟨by rw [← HT2.out]; rfl, rfl⟩

theorem name_under (y : UInt8) : fName [95, y] = nameCh y := by
  unfold fName
  have h1 : digB 95 = false := by decide
  have h2 : nameCh 95 = true := by decide
  simp [h1, h2]
theorem takeWhile_len {s : Str} {k : Nat} (hk : k ≤ s.length) (h : ∀ i (hi : i < s.length), i < k → nameCh s[i] = true) (he : ∀ (hl : k < s.length), nameCh s[k] = false) : (s.takeWhile nameCh).length = k := by
  induction s generalizing k with
  | nil => simp at hk; simp [hk]
  | cons c r ih =>
    cases k with
    | zero =>
      have := he (by simp)
      simp at this
      simp [this]
    | succ k =>
      have h0 := h 0 (by simp) (by omega)
      simp at h0
      rw [List.takeWhile_cons, if_pos h0, List.length_cons]
      congr 1
      refine ih (by simpa using hk) (fun i hi hlt => ?_) (fun hl => ?_)
      · have := h (i + 1) (by simpa using hi) (by omega)
        simpa using this
      · have := he (by simpa using hl)
        simpa using this
end Go.Proofs.YtideieolgjhbiaaGreatDoor
