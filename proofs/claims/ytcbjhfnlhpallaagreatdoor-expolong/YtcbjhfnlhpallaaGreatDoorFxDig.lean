/- isDigits, isWhole, read, strings.Cut at a point: each for every text. -/
import Derived.Test.YtcbjhfnlhpallaaGreatDoorFxPrint
import Derived.Test.YtcbjhfnlhpallaaGreatDoorFxDiv
import Derived.BigQuiet
namespace Go.Proofs.YtcbjhfnlhpallaaGreatDoor.Fx
open Go.RowKit

def isDg (c : UInt8) : Bool := decide (48 ≤ (c.toNat : Int) ∧ (c.toNat : Int) ≤ 57)
def dgs (l : List UInt8) : Bool := l.all isDg
def fDigits (l : List UInt8) (most : Nat) : Bool := decide (1 ≤ l.length) && (decide (l.length ≤ most) && dgs l)
def rd (l : List UInt8) : Nat := l.foldl (fun n c => n * 10 + (c.toNat - 48)) 0
theorem rd_snoc (l : List UInt8) (c : UInt8) : rd (l ++ [c]) = rd l * 10 + (c.toNat - 48) := by simp [rd]
theorem dgs_snoc (l : List UInt8) (c : UInt8) : dgs (l ++ [c]) = (dgs l && isDg c) := by simp [dgs]
theorem dgs_append (l m : List UInt8) : dgs (l ++ m) = (dgs l && dgs m) := by simp [dgs]
theorem take_snocB (l : List UInt8) (k : Nat) (h : k < l.length) : l.take (k + 1) = l.take k ++ [l[k]] := List.take_succ_eq_append_getElem h
theorem dgs_take {l : List UInt8} (h : dgs l = true) (k : Nat) : dgs (l.take k) = true := by
  have e : l.take k ++ l.drop k = l := List.take_append_drop k l
  rw [← e, dgs_append] at h
  simp at h
  exact h.1
theorem dgs_get {l : List UInt8} (h : dgs l = true) (k : Nat) (hk : k < l.length) : 48 ≤ (l[k].toNat : Int) ∧ (l[k].toNat : Int) ≤ 57 := by
  unfold dgs at h
  rw [List.all_eq_true] at h
  have := h l[k] (List.getElem_mem hk)
  unfold isDg at this
  exact of_decide_eq_true this
theorem not_dgs {l : List UInt8} (k : Nat) (hk : k < l.length) (h : ¬ (48 ≤ (l[k].toNat : Int) ∧ (l[k].toNat : Int) ≤ 57)) : dgs l = false := by
  cases hd : dgs l with
  | false => rfl
  | true => exact (h (dgs_get hd k hk)).elim
theorem rd_lt : ∀ (k : Nat) (l : List UInt8), dgs l = true → k ≤ l.length → rd (l.take k) < 10 ^ k
  | 0, l, _, _ => by simp [rd]
  | k + 1, l, h, hk => by
    rw [take_snocB l k (by omega), rd_snoc]
    have := rd_lt k l h (by omega)
    have := dgs_get h k (by omega)
    rw [Nat.pow_succ]
    omega
theorem ba_lt {l : List UInt8} {k : Nat} (h : k < l.length) : k < (⟨l.toArray⟩ : ByteArray).size := by rw [ba_size]; exact h

set_option maxHeartbeats 1000000 in
theorem isDigits_any (l : List UInt8) (most : Nat) (w : World) (hl : l.length ≤ 9223372036854775807) :
    Calls Tryz.prog 71 #[.string ⟨l.toArray⟩, .int .i64 most] w fun e w' => e = .returned (.bool (fDigits l most)) ∧ w = w' := by
  by_cases h1 : 1 ≤ l.length
  · by_cases h2 : l.length ≤ most
    · have e : fDigits l most = dgs l := by simp [fDigits, h1, h2]
      rw [e]
      have h1' : ¬ (l.length : Int) < 1 := by omega
      have h2' : ¬ (most : Int) < l.length := by omega
      go_enter Tryz.func71, Tryz.ntmps71
      go_wp2_with fail
      go_loop [17] (fun i => ∃ k : Nat, k ≤ l.length ∧ i = .int .i64 k ∧ Hid (dgs (l.take k) = true)) (fun i => l.length - (intOf i).toNat)
      case atStart => exact ⟨0, by omega, rfl, rfl⟩
      case round =>
        obtain ⟨k, hk, rfl, hd⟩ := hrel
        by_cases hlt : k < l.length
        · have hbk := ba_lt hlt
          by_cases hc1 : 48 ≤ (((⟨l.toArray⟩ : ByteArray)[k]'hbk).toNat : Int)
          · by_cases hc2 : (((⟨l.toArray⟩ : ByteArray)[k]'hbk).toNat : Int) ≤ 57
            · have hd' : Hid (dgs (l.take (k + 1)) = true) := by
                show dgs (l.take (k + 1)) = true
                rw [take_snocB l k hlt, dgs_snoc, hd.out]
                simp only [Bool.true_and]
                exact decide_eq_true ⟨hc1, hc2⟩
              go_wp2_with fail
              go_round
              case rel => exact ⟨k + 1, by omega, by go_num, hd'⟩
              case measure => simp [intOf]; omega
            · have hf : Hid (dgs l = false) := not_dgs k hlt (fun h => hc2 h.2)
              go_wp2_with fail
              go_ret
              exact ⟨by rw [hf.out]; rfl, rfl⟩
          · have hf : Hid (dgs l = false) := not_dgs k hlt (fun h => hc1 h.1)
            go_wp2_with fail
            go_ret
            exact ⟨by rw [hf.out]; rfl, rfl⟩
        · have hf : Hid (dgs l = true) := by
            have := hd.out
            rw [List.take_of_length_le (by omega)] at this
            exact this
          go_wp2_with fail
          go_ret
          exact ⟨by rw [hf.out]; rfl, rfl⟩
    · have e : fDigits l most = false := by simp [fDigits, h2]
      rw [e]
      have h1' : ¬ (l.length : Int) < 1 := by omega
      have h2' : (most : Int) < l.length := by omega
      go_enter Tryz.func71, Tryz.ntmps71
      go_wp2_with fail
      go_ret
      exact ⟨rfl, rfl⟩
  · have e : fDigits l most = false := by simp [fDigits, h1]
    rw [e]
    have h1' : (l.length : Int) < 1 := by omega
    go_enter Tryz.func71, Tryz.ntmps71
    go_wp2_with fail
    go_ret
    exact ⟨rfl, rfl⟩

/-- 1 to 13 digits, no nought ahead of another. -/
def fWhole (l : List UInt8) : Bool := fDigits l 13 && (decide (l.length = 1) || decide (l.head? ≠ some 48))
set_option maxHeartbeats 1000000 in
theorem isWhole_any (l : List UInt8) (w : World) (hl : l.length ≤ 9223372036854775807) :
    Calls Tryz.prog 70 #[.string ⟨l.toArray⟩] w fun e w' => e = .returned (.bool (fWhole l)) ∧ w = w' := by
  have hd := fun w => isDigits_any l 13 w hl
  unfold fWhole
  cases hf : fDigits l 13 with
  | false =>
    rw [hf] at hd
    go_enter Tryz.func70, Tryz.ntmps70
    go_wp2_with (go_at_call 71; refine (hd _).mono ?_; rintro e w' ⟨rfl, rfl⟩)
    go_ret
    exact ⟨rfl, rfl⟩
  | true =>
    rw [hf] at hd
    have h1 : 0 < l.length := by
      unfold fDigits at hf
      simp at hf
      omega
    have hbk := ba_lt h1
    by_cases h2 : l.length = 1
    · have h2' : (l.length : Int) = 1 := by omega
      go_enter Tryz.func70, Tryz.ntmps70
      go_wp2_with (go_at_call 71; refine (hd _).mono ?_; rintro e w' ⟨rfl, rfl⟩)
      go_ret
      exact ⟨by simp [h2], rfl⟩
    · have h2' : ¬ (l.length : Int) = 1 := by omega
      by_cases h3 : (((⟨l.toArray⟩ : ByteArray)[0]'hbk).toNat : Int) = 48
      · have h4 : Hid (l.head? = some 48) := by
          show l.head? = some 48
          cases l with
          | nil => cases h1
          | cons c r =>
            have : (c.toNat : Int) = 48 := h3
            have : c = 48 := UInt8.toNat_inj.1 (by show c.toNat = 48; omega)
            rw [this]
            rfl
        go_enter Tryz.func70, Tryz.ntmps70
        go_wp2_with (go_at_call 71; refine (hd _).mono ?_; rintro e w' ⟨rfl, rfl⟩)
        go_ret
        exact ⟨by rw [h4.out]; simp [h2, h2'], rfl⟩
      · have h4 : Hid (l.head? ≠ some 48) := by
          show l.head? ≠ some 48
          intro h
          cases l with
          | nil => cases h1
          | cons c r =>
            cases h
            exact h3 rfl
        go_enter Tryz.func70, Tryz.ntmps70
        go_wp2_with (go_at_call 71; refine (hd _).mono ?_; rintro e w' ⟨rfl, rfl⟩)
        go_ret
        exact ⟨by simp [h4.out, h2', h3], rfl⟩

set_option maxHeartbeats 1000000 in
theorem read_any (l : List UInt8) (w : World) (hl : l.length ≤ 19) (hd : dgs l = true) :
    Calls Tryz.prog 72 #[.string ⟨l.toArray⟩] w fun e w' => e = .returned (.int .u64 (rd l)) ∧ w = w' := by
  have HD : Hid (dgs l = true) := hd
  clear hd
  go_enter Tryz.func72, Tryz.ntmps72
  go_wp2_with fail
  go_loop [3, 7] (fun n i => ∃ k : Nat, k ≤ l.length ∧ i = .int .i64 k ∧ n = .int .u64 (rd (l.take k))) (fun _ i => l.length - (intOf i).toNat)
  case atStart => exact ⟨0, by omega, rfl, rfl⟩
  case round =>
    obtain ⟨k, hk, rfl, rfl⟩ := hrel
    by_cases hlt : k < l.length
    · have hbk := ba_lt hlt
      have hg : 48 ≤ (((⟨l.toArray⟩ : ByteArray)[k]'hbk).toNat : Int) ∧ (((⟨l.toArray⟩ : ByteArray)[k]'hbk).toNat : Int) ≤ 57 := dgs_get HD.out k hlt
      obtain ⟨hc1, hc2⟩ := hg
      have hr := rd_lt k l HD.out hk
      have hp : 10 ^ k ≤ 10 ^ 18 := Nat.pow_le_pow_right (by omega) (by omega)
      have hr' : rd (l.take k) < 1000000000000000000 := by
        have : (10 : Nat) ^ 18 = 1000000000000000000 := by decide
        omega
      have HS : Hid (rd (l.take (k + 1)) = rd (l.take k) * 10 + (((⟨l.toArray⟩ : ByteArray)[k]'hbk).toNat - 48)) := by
        show rd (l.take (k + 1)) = _
        rw [take_snocB l k hlt, rd_snoc]
        rfl
      clear hr hp
      generalize rd (l.take k) = m at *
      go_wp2_with fail
      go_round
      case rel => exact ⟨k + 1, by omega, by go_num, by rw [HS.out]; go_num⟩
      case measure => simp [intOf]; omega
    · have e : l.take k = l := List.take_of_length_le (by omega)
      rw [e]
      go_wp2_with fail
      go_ret
      exact ⟨rfl, rfl⟩

/-- Cut at the first point. -/
def cutP : List UInt8 → List UInt8 × List UInt8 × Bool
  | [] => ([], [], false)
  | c :: r => if c = 46 then ([], r, true) else (c :: (cutP r).1, (cutP r).2.1, (cutP r).2.2)
theorem cut_index : ∀ l : List UInt8, (cutP l = (l, [], false) ∧ Lib.indexByte l 46 = -1) ∨ ∃ i : Nat, i < l.length ∧ Lib.indexByte l 46 = (i : Int) ∧ cutP l = (l.take i, l.drop (i + 1), true)
  | [] => Or.inl ⟨rfl, rfl⟩
  | c :: r => by
    by_cases h : c = 46
    · subst h
      exact Or.inr ⟨0, by simp, by simp [Lib.indexByte], by simp [cutP]⟩
    · rcases cut_index r with ⟨h1, h2⟩ | ⟨i, h1, h2, h3⟩
      · exact Or.inl ⟨by simp [cutP, h, h1], by simp [Lib.indexByte, h, h2]⟩
      · refine Or.inr ⟨i + 1, by simp; omega, ?_, by simp [cutP, h, h3]⟩
        have : ¬ ((i : Int) = -1) := by omega
        simp [Lib.indexByte, h, h2, this]
theorem ba_take (l : List UInt8) (k : Nat) : (⟨l.toArray⟩ : ByteArray).extract 0 k = ⟨(l.take k).toArray⟩ := by
  apply ByteArray.ext
  rw [ByteArray.data_extract]
  simp

set_option maxHeartbeats 1000000 in
theorem cut_inner (l : List UInt8) (w : World) (hl : l.length ≤ 1000) :
    Calls Tryz.prog 110 #[.string ⟨l.toArray⟩, .string ⟨#[46]⟩] w fun e w' => e = .returned (.tuple #[.string ⟨(cutP l).1.toArray⟩, .string ⟨(cutP l).2.1.toArray⟩, .bool (cutP l).2.2]) ∧ Below w.heap.size w w' := by
  have hi := fun w => Tryz.fx_stringslite_Index_one ⟨l.toArray⟩ 46 w
  have hsz := ba_size l
  rcases cut_index l with ⟨h1, h2⟩ | ⟨i, h1, h2, h3⟩
  · rw [h1]
    rw [h2] at hi
    go_enter Tryz.func110, Tryz.ntmps110
    go_wp2_with (go_at_call 127; refine (hi _).mono ?_; rintro e w' ⟨rfl, rfl⟩)
    exact bodyPost_ret (v := .tuple #[.string ⟨l.toArray⟩, .string ⟨#[]⟩, .bool false]) (by simp [results, Tryz.results110, go_sem]) rfl ⟨rfl, Below.refl _ _⟩
  · rw [h3]
    rw [h2] at hi
    have t1 := ba_take l i
    have t2 := ba_drop l (i + 1)
    go_enter Tryz.func110, Tryz.ntmps110
    go_wp2_with (go_at_call 127; refine (hi _).mono ?_; rintro e w' ⟨rfl, rfl⟩)
    go_quiet (fail)
    go_wp2
    exact bodyPost_ret (v := .tuple #[.string ⟨(l.take i).toArray⟩, .string ⟨(l.drop (i + 1)).toArray⟩, .bool true]) (by simp [results, Tryz.results110, go_sem]) rfl ⟨rfl, below_drewN (Below.refl _ _) _⟩
theorem cut_any (l : List UInt8) (w : World) (hl : l.length ≤ 1000) :
    Calls Tryz.prog 69 #[.string ⟨l.toArray⟩, .string ⟨#[46]⟩] w fun e w' => e = .returned (.tuple #[.string ⟨(cutP l).1.toArray⟩, .string ⟨(cutP l).2.1.toArray⟩, .bool (cutP l).2.2]) ∧ Below w.heap.size w w' := by
  have h := cut_inner l w hl
  generalize (cutP l).1 = a at *
  generalize (cutP l).2.1 = b at *
  generalize (cutP l).2.2 = c at *
  go_enter Tryz.func69, Tryz.ntmps69
  go_wp2_with fail
  refine h.mono ?_
  rintro e w1 ⟨rfl, hb1⟩
  go_wp2
  exact bodyPost_ret (v := .tuple #[.string ⟨a.toArray⟩, .string ⟨b.toArray⟩, .bool c]) (by simp [results, Tryz.results69, go_sem]) rfl ⟨rfl, hb1⟩
end Go.Proofs.YtcbjhfnlhpallaaGreatDoor.Fx
