/- Print: for every argument. -/
import Derived.Test.YtcbjhfnlhpallaaGreatDoorFxFmt
namespace Go.Proofs.YtcbjhfnlhpallaaGreatDoor.Fx
open Go.RowKit

/-- The digits behind the point. -/
def fracT (r : Nat) : List UInt8 := Lib.trimRightB (Lib.decDigits (1000000 + r)).tail 48
/-- A number's text, without its sign. -/
def prU (m : Nat) : List UInt8 := Lib.decDigits (m / 1000000) ++ (if m % 1000000 = 0 then [] else 46 :: fracT (m % 1000000))
def fPrint : Option Int → List UInt8
  | none => [111, 118, 102]
  | some n => (if n < 0 then [45] else []) ++ prU n.natAbs

theorem dec_short {u : Nat} (h : u < 18446744073709551616) : (Lib.decDigits u).length ≤ 20 := by
  rw [Lib.decDigits_length]
  by_cases h1 : 1 ≤ u
  · have := Lib.numDigits_eq u h1 h
    split at this <;> omega
  · have : u = 0 := by omega
    subst this
    rw [Lib.nDigits_small (by omega)]
    omega
theorem trim_short (l : List UInt8) (c : UInt8) : (Lib.trimRightB l c).length ≤ l.length := by
  unfold Lib.trimRightB
  rw [List.length_reverse]
  have := (List.dropWhile_sublist (· == c) (l := l.reverse)).length_le
  rw [List.length_reverse] at this
  exact this
theorem frac_short {r : Nat} (h : r < 1000000) : (fracT r).length ≤ 20 := by
  have := trim_short (Lib.decDigits (1000000 + r)).tail 48
  have := dec_short (by omega : 1000000 + r < 18446744073709551616)
  unfold fracT
  rw [List.length_tail] at *
  omega
theorem ba_append (x y : List UInt8) : (⟨x.toArray⟩ : ByteArray) ++ ⟨y.toArray⟩ = ⟨(x ++ y).toArray⟩ := by
  apply ByteArray.ext
  rw [ByteArray.data_append]
  simp
theorem ba_drop (l : List UInt8) (k : Nat) : (⟨l.toArray⟩ : ByteArray).extract k l.length = ⟨(l.drop k).toArray⟩ := by
  apply ByteArray.ext
  rw [ByteArray.data_extract]
  simp
  rw [List.take_of_length_le (by simp)]
theorem ba_size (l : List UInt8) : (⟨l.toArray⟩ : ByteArray).size = l.length := by
  show l.toArray.size = _
  simp
theorem trim_any (l : List UInt8) (w : World) (hl : l.length ≤ 1000) : Calls Tryz.prog 59 #[.string ⟨l.toArray⟩, .string ⟨#[48]⟩] w fun e w' => e = .returned (.string ⟨(Lib.trimRightB l 48).toArray⟩) ∧ w = w' := by
  refine (Tryz.fx_strings_TrimRight_one ⟨l.toArray⟩ 48 (by decide) w (by rw [ba_size]; omega)).mono ?_
  rintro e w' ⟨rfl, rfl⟩
  exact ⟨by simp, rfl⟩
set_option maxHeartbeats 2000000 in
theorem print_any (o : Bool) (n : Int) (w : World) (hn : R64 n) (ht : Tab Tryz.prog w) : Calls Tryz.prog 23 #[.agg #[.bool o, .int .i64 n]] w fun e w' => e = .returned (.string ⟨(fPrint (cnt o n)).toArray⟩) ∧ Below w.heap.size w w' := by
  have hV : V (cnt o n) := V.cnt hn.1 hn.2
  have hx := Box.new w o n
  have hb0 : Below w.heap.size w (w.alloc (.cells #[.bool o, .int .i64 n] 32)) := bal (Below.refl _ _) _
  cases hr : cnt o n with
  | none =>
    go_enter Tryz.func23, Tryz.ntmps23
    go_wp2_with fail
    refine (counted_none hr _ hn.1).mono ?_
    rintro e w1 ⟨rfl, hb1⟩
    have hx1 := hx.later hb1
    obtain ⟨p0, p1, _, _⟩ := hx1.put (p := true) (m := 0)
    obtain ⟨c0, c1, f0, f1⟩ := hx1
    go_wp2
    go_ret
    exact ⟨rfl, put2 (Below.chain hb0 hb1) (by omega) _ _⟩
  | some a =>
    rw [hr] at hV
    have ha : R64 a := ⟨by have := hV.1; simp only [nn] at this; omega, hV.2⟩
    have hmag := fun w => mag_any a w ha.1 ha.2
    have hm : a.natAbs < 18446744073709551616 := by have := ha.1; have := ha.2; omega
    show Calls _ _ _ _ fun e w' => e = .returned (.string ⟨((if a < 0 then [45] else []) ++ prU a.natAbs).toArray⟩) ∧ _
    generalize a.natAbs = M at *
    unfold prU
    obtain ⟨Q, hQ⟩ : ∃ Q, M / 1000000 = Q := ⟨_, rfl⟩
    obtain ⟨R, hR⟩ : ∃ R, M % 1000000 = R := ⟨_, rfl⟩
    have e1 : (M : Int) / 1000000 = (Q : Int) := by omega
    have e2 : (M : Int) % 1000000 = (R : Int) := by omega
    have hQm : Q < 18446744073709551616 := by omega
    have hRm : R < 1000000 := by omega
    rw [hQ, hR]
    have HM : Hid (M < 18446744073709551616) := hm
    clear hQ hR hm
    have hl1 := dec_short hQm
    have hl2 := dec_short (by omega : 1000000 + R < 18446744073709551616)
    have hl3 := frac_short hRm
    have hl4 : 1 ≤ (Lib.decDigits (1000000 + R)).length := by rw [Lib.decDigits_length]; exact Lib.nDigits_pos _
    have hap := ba_append
    have hdr := ba_drop (Lib.decDigits (1000000 + R)) 1
    have hF1 := fmt_any Q hQm
    have hF2 := fmt_any (1000000 + R) (by omega)
    have e3 : ((1000000 + R : Nat) : Int) = 1000000 + (R : Int) := by omega
    rw [e3] at hF2
    go_enter Tryz.func23, Tryz.ntmps23
    go_wp2_with fail
    refine (counted_some hr _ hn.1).mono ?_
    rintro e w1 ⟨rfl, hb1⟩
    have hx1 := hx.later hb1
    have hx2 := hx1.put (p := false) (m := a)
    have hb2 := put2 (Below.chain hb0 hb1) (b := w.heap.size) (by omega) false a
    have hx2' := hx2
    obtain ⟨p0, p1, _, _⟩ := hx2
    have ht2 := ht.later hb2
    obtain ⟨c0, c1, f0, f1⟩ := hx1
    go_wp2_with (go_at_call 57; refine (hmag _).mono ?_; rintro e w' ⟨rfl, rfl⟩)
    refine (hF1 _ ht2).mono ?_
    rintro e w2 ⟨rfl, hb3⟩
    have ht3 := ht2.later hb3
    have hb4 := Below.chain hb2 hb3
    obtain ⟨d0, d1, g0, g1⟩ := hx2'.later hb3
    clear p0 p1 c0 c1 f0 f1
    by_cases hneg : a < 0
    · skip
      by_cases hz : R = 0
      · subst hz
        go_wp2
        go_ret
        exact ⟨by simp, hb4⟩
      · have hz' : ¬ (R : Int) = 0 := by omega
        go_wp2_with fail
        refine (hF2 _ ht3).mono ?_
        rintro e w3 ⟨rfl, hb5⟩
        go_wp2_with fail
        refine (trim_any _ _ (by rw [List.length_tail]; omega)).mono ?_
        rintro e w4 ⟨rfl, rfl⟩
        have hfr : Lib.trimRightB (Lib.decDigits (1000000 + R)).tail 48 = fracT R := rfl
        rw [hfr]
        clear hfr
        go_wp2
        go_ret
        exact ⟨by simp, Below.chain hb4 hb5⟩
    · skip
      by_cases hz : R = 0
      · subst hz
        go_wp2
        go_ret
        exact ⟨by simp, hb4⟩
      · have hz' : ¬ (R : Int) = 0 := by omega
        go_wp2_with fail
        refine (hF2 _ ht3).mono ?_
        rintro e w3 ⟨rfl, hb5⟩
        go_wp2_with fail
        refine (trim_any _ _ (by rw [List.length_tail]; omega)).mono ?_
        rintro e w4 ⟨rfl, rfl⟩
        have hfr : Lib.trimRightB (Lib.decDigits (1000000 + R)).tail 48 = fracT R := rfl
        rw [hfr]
        clear hfr
        go_wp2
        go_ret
        exact ⟨by simp, Below.chain hb4 hb5⟩
end Go.Proofs.YtcbjhfnlhpallaaGreatDoor.Fx
