/- Numbers by their reference: the texts that the others lean on, in one. -/
import Derived.Test.YtajbjbnfklllkaaGreatDoorBaseF
/- Cmp: for every argument. -/
namespace Go.Proofs.YtajbjbnfklllkaaGreatDoor.Fx
open Go.RowKit

end Go.Proofs.YtajbjbnfklllkaaGreatDoor.Fx
/- scaled, Of, and the document's own signed, over: each for every argument. -/
namespace Go.Proofs.YtajbjbnfklllkaaGreatDoor.Fx
open Go.RowKit

/-- a times b over c, with a sign. -/
def fScale (neg : Bool) (a b c : Nat) : Option Int := if c = 0 then none else sgn neg (a * b / c)
theorem sgn_big {neg : Bool} {m : Nat} (h : 9223372036854775807 < m) : sgn neg m = none := by unfold sgn; rw [if_pos h]
theorem scale_over {neg : Bool} {a b c : Nat} (h : c ≤ a * b / 18446744073709551616) : fScale neg a b c = none := by
  unfold fScale
  by_cases hc : c = 0
  · rw [if_pos hc]
  · rw [if_neg hc]
    refine sgn_big ?_
    have h1 := (Nat.le_div_iff_mul_le (by omega : 0 < 18446744073709551616)).1 h
    rw [Nat.mul_comm] at h1
    have := (Nat.le_div_iff_mul_le (by omega : 0 < c)).2 h1
    omega
theorem quot_lt {a b c : Nat} (h : ¬ c ≤ a * b / 18446744073709551616) : a * b / c < 18446744073709551616 := by
  have h1 : a * b / 18446744073709551616 < c := by omega
  rw [Nat.div_lt_iff_lt_mul (by omega)] at h1
  rw [Nat.div_lt_iff_lt_mul (by omega)]
  omega

theorem sgn_pos (m : Nat) : sgn false m = norm (m : Int) := by
  unfold sgn norm
  by_cases h : 9223372036854775807 < m
  · rw [if_pos h, if_neg (by omega)]
  · rw [if_neg h]
    show some (m : Int) = _
    rw [if_pos (by omega)]
theorem sgn_neg (m : Nat) : sgn true m = norm (-(m : Int)) := by
  unfold sgn norm
  by_cases h : 9223372036854775807 < m
  · rw [if_pos h, if_neg (by omega)]
  · rw [if_neg h]
    show some (-(m : Int)) = _
    rw [if_pos (by omega)]
def fOf (n : Int) : Option Int := norm (n * 1000000)
theorem scale_of (n : Int) : fScale (decide (n < 0)) n.natAbs 1000000 1 = fOf n := by
  unfold fScale fOf
  rw [if_neg (by omega), Nat.div_one]
  by_cases h : n < 0
  · rw [decide_eq_true h, sgn_neg]
    congr 1
    omega
  · rw [decide_eq_false h, sgn_pos]
    congr 1
    omega

set_option maxHeartbeats 1000000 in
theorem rsigned_any (b : Bool) (m : Nat) (w : World) (hm : m < 18446744073709551616) : Calls Tryz.prog 75 #[.int .u64 m, .bool b] w fun e w' => e = .returned (.agg #[.bool (ov (sgn b m)), .int .i64 (nn (sgn b m))]) ∧ Below w.heap.size w w' := by
  unfold sgn
  by_cases h : 9223372036854775807 < m
  · have hd : (9223372036854775807 : Int) < m := by omega
    rw [if_pos h]
    go_enter Tryz.func75, Tryz.ntmps75
    go_wp2_with fail
    refine (ovf_any _).mono ?_
    rintro e w1 ⟨rfl, hb1⟩
    obtain ⟨c0, c1, f0, f1⟩ := (Box.new w false 0).later hb1
    go_wp2
    exact bodyPost_ret (v := .agg #[.bool true, .int .i64 0]) (by simp [results, Tryz.results75, go_sem, c0, c1]) rfl ⟨rfl, put2 (Below.chain (bal (Below.refl _ _) _) hb1) (by omega) _ _⟩
  · have hd : ¬ (9223372036854775807 : Int) < m := by omega
    rw [if_neg h]
    have e1 : IntKind.i64.wrap (m : Int) = m := by rw [IntKind.wrap_i64]; omega
    have e2 : IntKind.i64.wrap (-(m : Int)) = -(m : Int) := by rw [IntKind.wrap_i64]; omega
    cases b with
    | true =>
      go_enter Tryz.func75, Tryz.ntmps75
      go_wp2
      exact bodyPost_ret (v := .agg #[.bool false, .int .i64 (-(m : Int))]) (by simp [results, Tryz.results75, go_sem]) rfl ⟨rfl, bal (Below.refl _ _) _⟩
    | false =>
      go_enter Tryz.func75, Tryz.ntmps75
      go_wp2
      exact bodyPost_ret (v := .agg #[.bool false, .int .i64 (m : Int)]) (by simp [results, Tryz.results75, go_sem]) rfl ⟨rfl, bal (Below.refl _ _) _⟩

end Go.Proofs.YtajbjbnfklllkaaGreatDoor.Fx
/- Mul, Div: each for every argument. -/
namespace Go.Proofs.YtajbjbnfklllkaaGreatDoor.Fx
open Go.RowKit

theorem abs_lt {a : Int} (h : R64 a) : a.natAbs < 18446744073709551616 := by have := h.1; have := h.2; omega
theorem sgn_tdiv (a b : Int) (k : Nat) : sgn (decide (a < 0) != decide (b < 0)) (a.natAbs * b.natAbs / k) = norm ((a * b).tdiv k) := by
  have hp : ∀ A B : Nat, ((A : Int) * (B : Int)).tdiv k = ((A * B / k : Nat) : Int) := fun A B => by
    rw [← Int.natCast_mul]
    rfl
  rcases Int.lt_or_le a 0 with ha | ha <;> rcases Int.lt_or_le b 0 with hb | hb
  · obtain ⟨A, rfl⟩ : ∃ A : Nat, a = -(A : Int) := ⟨a.natAbs, by omega⟩
    obtain ⟨B, rfl⟩ : ∃ B : Nat, b = -(B : Int) := ⟨b.natAbs, by omega⟩
    rw [decide_eq_true ha, decide_eq_true hb, Int.neg_mul_neg, hp, Int.natAbs_neg, Int.natAbs_neg, Int.natAbs_natCast, Int.natAbs_natCast]
    exact sgn_pos _
  · obtain ⟨A, rfl⟩ : ∃ A : Nat, a = -(A : Int) := ⟨a.natAbs, by omega⟩
    obtain ⟨B, rfl⟩ : ∃ B : Nat, b = (B : Int) := ⟨b.natAbs, by omega⟩
    rw [decide_eq_true ha, decide_eq_false (by omega), Int.neg_mul, Int.neg_tdiv, hp, Int.natAbs_neg, Int.natAbs_natCast, Int.natAbs_natCast]
    exact sgn_neg _
  · obtain ⟨A, rfl⟩ : ∃ A : Nat, a = (A : Int) := ⟨a.natAbs, by omega⟩
    obtain ⟨B, rfl⟩ : ∃ B : Nat, b = -(B : Int) := ⟨b.natAbs, by omega⟩
    rw [decide_eq_false (by omega), decide_eq_true hb, Int.mul_neg, Int.neg_tdiv, hp, Int.natAbs_neg, Int.natAbs_natCast, Int.natAbs_natCast]
    exact sgn_neg _
  · obtain ⟨A, rfl⟩ : ∃ A : Nat, a = (A : Int) := ⟨a.natAbs, by omega⟩
    obtain ⟨B, rfl⟩ : ∃ B : Nat, b = (B : Int) := ⟨b.natAbs, by omega⟩
    rw [decide_eq_false (by omega), decide_eq_false (by omega), hp, Int.natAbs_natCast, Int.natAbs_natCast]
    exact sgn_pos _
theorem scale_mul (a b : Int) : fScale (decide (a < 0) != decide (b < 0)) a.natAbs b.natAbs 1000000 = fMul (some a) (some b) := by
  unfold fScale
  rw [if_neg (by omega)]
  exact sgn_tdiv a b 1000000
theorem scale_div (a b : Int) : fScale (decide (a < 0) != decide (b < 0)) a.natAbs 1000000 b.natAbs = fDiv (some a) (some b) := by
  unfold fScale
  show _ = if b = 0 then none else _
  by_cases h : b = 0
  · rw [if_pos h, if_pos (by omega)]
  · rw [if_neg h, if_neg (by omega)]
    rcases Int.lt_or_le b 0 with hb | hb
    · obtain ⟨B, rfl⟩ : ∃ B : Nat, b = -(B : Int) := ⟨b.natAbs, by omega⟩
      have e := sgn_tdiv (-a) 1000000 B
      rw [Int.natAbs_neg, Int.neg_mul, Int.neg_tdiv] at e
      rw [Int.tdiv_neg, ← e, Int.natAbs_neg, Int.natAbs_natCast, decide_eq_true hb]
      by_cases h0 : a = 0
      · subst h0
        simp [sgn]
      · congr 1
        rcases Int.lt_or_le a 0 with ha | ha
        · rw [decide_eq_true ha, decide_eq_false (by omega)]
          rfl
        · rw [decide_eq_false (by omega), decide_eq_true (by omega)]
          rfl
    · obtain ⟨B, rfl⟩ : ∃ B : Nat, b = (B : Int) := ⟨b.natAbs, by omega⟩
      have e := sgn_tdiv a 1000000 B
      rw [← e, Int.natAbs_natCast, decide_eq_false (by omega : ¬ (B : Int) < 0)]
      rfl

end Go.Proofs.YtajbjbnfklllkaaGreatDoor.Fx
/- known: the document's own examples come out as they are told. -/
namespace Go.Proofs.YtajbjbnfklllkaaGreatDoor.Fx
open Go.RowKit

theorem ex_parse1 : fParse [45, 48, 46, 53] = some (some (-500000)) := by decide +kernel
theorem ex_parse2 : fParse [48, 49] = none := by decide +kernel
theorem ex_of1 : fOf 1 = some 1000000 := by decide +kernel
theorem ex_of3 : fOf 3 = some 3000000 := by decide +kernel
theorem ex_div : fDiv (some 1000000) (some 3000000) = some 333333 := by decide +kernel
theorem dec7 : Lib.decDigits 1333333 = [49, 51, 51, 51, 51, 51, 51] := by
  simp [Lib.decDigits]
theorem ex_print : fPrint (some 333333) = [48, 46, 51, 51, 51, 51, 51, 51] := by
  have e1 : Lib.decDigits 0 = [48] := by simp [Lib.decDigits]
  have e2 : fracT 333333 = [51, 51, 51, 51, 51, 51] := by
    unfold fracT
    rw [dec7]
    decide +kernel
  show (if (333333 : Int) < 0 then [45] else []) ++ prU 333333 = _
  unfold prU
  rw [if_neg (by decide), if_neg (by decide)]
  rw [show 333333 / 1000000 = 0 from rfl, show 333333 % 1000000 = 333333 from rfl, e1, e2]
  rfl
theorem ex_cnt (n : Int) (h : -9223372036854775807 ≤ n) : cnt false n = some n := by
  unfold cnt
  rw [if_neg (by intro e; rcases e with e | e; cases e; omega)]

theorem known_parse1 (w : World) : Calls Tryz.prog 70 #[.string ⟨#[45, 48, 46, 53]⟩] w fun e w' => e = .returned (.tuple #[.agg #[.bool false, .int .i64 (-500000)], .int .i64 0]) ∧ Below w.heap.size w w' := by
  have h := parse_any [45, 48, 46, 53] w (by decide)
  rw [ex_parse1] at h
  exact h
theorem known_parse2 (w : World) : Calls Tryz.prog 70 #[.string ⟨#[48, 49]⟩] w fun e w' => e = .returned (.tuple #[.agg #[.bool false, .int .i64 0], .int .i64 20]) ∧ Below w.heap.size w w' := by
  have h := parse_any [48, 49] w (by decide)
  rw [ex_parse2] at h
  exact h
theorem known_print (w : World) (ht : Tab Tryz.prog w) : Calls Tryz.prog 36 #[.agg #[.bool false, .int .i64 333333]] w fun e w' => e = .returned (.string ⟨#[48, 46, 51, 51, 51, 51, 51, 51]⟩) ∧ Below w.heap.size w w' := by
  have h := print_any false 333333 w ⟨by decide, by decide⟩ ht
  rw [ex_cnt _ (by decide), ex_print] at h
  exact h
theorem field_ovf (o : Bool) (n : Int) (w : World) : (Instr.field 34 (.agg #[.bool o, .int .i64 n]) 0).run Tryz.prog w = .ok (.bool o) w := by kernel_rfl
end Go.Proofs.YtajbjbnfklllkaaGreatDoor.Fx
/- Sub: for every argument. -/
namespace Go.Proofs.YtajbjbnfklllkaaGreatDoor.Fx
open Go.RowKit

theorem V.r64 {r : Option Int} (h : V r) : R64 (nn r) := ⟨by have := h.1; omega, h.2⟩
end Go.Proofs.YtajbjbnfklllkaaGreatDoor.Fx
/- The document's own Is, none, Add, Neg: each for every argument. -/
namespace Go.Proofs.YtajbjbnfklllkaaGreatDoor.Fx
open Go.RowKit

theorem rIs_eq {o : Bool} {n : Int} (h0 : -9223372036854775808 ≤ n) : fIs o n = if o = true then decide (n = 0) else decide (¬ n = -9223372036854775808) := by
  unfold fIs
  cases o with
  | true => rfl
  | false =>
    show decide (-9223372036854775807 ≤ n) = decide (¬ n = -9223372036854775808)
    by_cases h : n = -9223372036854775808
    · rw [decide_eq_false (by omega), decide_eq_false (by omega)]
    · rw [decide_eq_true (by omega), decide_eq_true h]

set_option maxHeartbeats 1000000 in
theorem ris_any (o : Bool) (n : Int) (w : World) (h0 : -9223372036854775808 ≤ n) : Calls Tryz.prog 42 #[.agg #[.bool o, .int .i64 n]] w fun e w' => e = .returned (.bool (fIs o n)) ∧ Below w.heap.size w w' := by
  have hb0 : Below w.heap.size w (w.alloc (.cells #[.bool o, .int .i64 n] 34)) := bal (Below.refl _ _) _
  rw [rIs_eq h0]
  cases o with
  | true =>
    by_cases h : n = 0
    · subst h
      go_enter Tryz.func42, Tryz.ntmps42
      go_wp2
      go_ret
      exact ⟨rfl, hb0⟩
    · have H : Hid (¬ n = 0) := h
      go_enter Tryz.func42, Tryz.ntmps42
      go_wp2
      go_ret
      exact ⟨by simp [H.out], hb0⟩
  | false =>
    by_cases h : n = -9223372036854775808
    · subst h
      go_enter Tryz.func42, Tryz.ntmps42
      go_wp2
      go_ret
      exact ⟨rfl, hb0⟩
    · go_enter Tryz.func42, Tryz.ntmps42
      go_wp2
      go_ret
      exact ⟨by simp, hb0⟩

/-- What counts: overflow, or a number. -/
theorem cnt_cases {o : Bool} {n : Int} (h0 : -9223372036854775808 ≤ n) : (o = true ∧ cnt o n = none) ∨ (o = false ∧ fIs o n = false ∧ cnt o n = none) ∨ (o = false ∧ fIs o n = true ∧ cnt o n = some n) := by
  cases o with
  | true => exact Or.inl ⟨rfl, by simp [cnt]⟩
  | false =>
    cases h : fIs false n with
    | false => exact Or.inr (Or.inl ⟨rfl, rfl, isnt_cnt h0 h⟩)
    | true =>
      refine Or.inr (Or.inr ⟨rfl, rfl, ?_⟩)
      have hh : -9223372036854775807 ≤ n := by simpa [fIs] using h
      unfold cnt
      rw [if_neg (by intro e; rcases e with e | e; cases e; omega)]

def nov (x y : Option Int) : Bool := ov x || ov y
end Go.Proofs.YtajbjbnfklllkaaGreatDoor.Fx
/- The document's own Add, Sub, Mul, Div, Of: each for every argument. -/
namespace Go.Proofs.YtajbjbnfklllkaaGreatDoor.Fx
open Go.RowKit

theorem add_cases {a b N : Int} (ha0 : -9223372036854775807 ≤ a) (ha1 : a ≤ 9223372036854775807) (hb0 : -9223372036854775807 ≤ b) (hb1 : b ≤ 9223372036854775807) (hN : wrap64 (a + b) = N) :
    (a > 0 ∧ b > 0 ∧ N ≤ 0 ∧ norm (a + b) = none) ∨ (a > 0 ∧ b > 0 ∧ ¬ N ≤ 0 ∧ ¬ N = -9223372036854775808 ∧ norm (a + b) = some N) ∨ (a > 0 ∧ ¬ b > 0 ∧ ¬ a < 0 ∧ ¬ N = -9223372036854775808 ∧ norm (a + b) = some N) ∨ (¬ a > 0 ∧ a < 0 ∧ b < 0 ∧ N ≥ 0 ∧ norm (a + b) = none) ∨ (¬ a > 0 ∧ a < 0 ∧ b < 0 ∧ ¬ N ≥ 0 ∧ N = -9223372036854775808 ∧ norm (a + b) = none) ∨ (¬ a > 0 ∧ a < 0 ∧ b < 0 ∧ ¬ N ≥ 0 ∧ ¬ N = -9223372036854775808 ∧ norm (a + b) = some N) ∨ (¬ a > 0 ∧ a < 0 ∧ ¬ b < 0 ∧ ¬ N = -9223372036854775808 ∧ norm (a + b) = some N) ∨ (¬ a > 0 ∧ ¬ a < 0 ∧ ¬ N = -9223372036854775808 ∧ norm (a + b) = some N) := by
  have hw : N = a + b ∨ (N = a + b - 18446744073709551616 ∧ 9223372036854775807 < a + b) ∨ (N = a + b + 18446744073709551616 ∧ a + b < -9223372036854775808) := by
    unfold wrap64 at hN
    omega
  have hr : -9223372036854775808 ≤ N ∧ N ≤ 9223372036854775807 := by unfold wrap64 at hN; omega
  clear hN
  rcases hw with h | ⟨h, h'⟩ | ⟨h, h'⟩
  · by_cases hm : N = -9223372036854775808
    · have e : norm (a + b) = none := by unfold norm; rw [if_neg (by omega)]
      rw [e]
      refine Or.inr (Or.inr (Or.inr (Or.inr (Or.inl ⟨by omega, by omega, by omega, by omega, hm, rfl⟩))))
    · have e : norm (a + b) = some N := by unfold norm; rw [if_pos (by omega), h]
      rw [e]
      by_cases p1 : a > 0
      · by_cases p2 : b > 0
        · exact Or.inr (Or.inl ⟨p1, p2, by omega, hm, rfl⟩)
        · exact Or.inr (Or.inr (Or.inl ⟨p1, p2, by omega, hm, rfl⟩))
      · by_cases p3 : a < 0
        · by_cases p4 : b < 0
          · exact Or.inr (Or.inr (Or.inr (Or.inr (Or.inr (Or.inl ⟨p1, p3, p4, by omega, hm, rfl⟩)))))
          · exact Or.inr (Or.inr (Or.inr (Or.inr (Or.inr (Or.inr (Or.inl ⟨p1, p3, p4, hm, rfl⟩))))))
        · exact Or.inr (Or.inr (Or.inr (Or.inr (Or.inr (Or.inr (Or.inr ⟨p1, p3, hm, rfl⟩))))))
  · have e : norm (a + b) = none := by unfold norm; rw [if_neg (by omega)]
    rw [e]
    exact Or.inl ⟨by omega, by omega, by omega, rfl⟩
  · have e : norm (a + b) = none := by unfold norm; rw [if_neg (by omega)]
    rw [e]
    exact Or.inr (Or.inr (Or.inr (Or.inl ⟨by omega, by omega, by omega, by omega, rfl⟩)))

end Go.Proofs.YtajbjbnfklllkaaGreatDoor.Fx
/- The document's own Sub, Mul, Div, Of: each for every argument. -/
namespace Go.Proofs.YtajbjbnfklllkaaGreatDoor.Fx
open Go.RowKit

theorem both_nums {o p : Bool} {n m : Int} (hn : -9223372036854775808 ≤ n) (hm : -9223372036854775808 ≤ m) (h : nov (cnt o n) (cnt p m) = false) : cnt o n = some n ∧ cnt p m = some m := by
  rcases cnt_cases (o := o) hn with ⟨_, e1⟩ | ⟨_, _, e1⟩ | ⟨_, _, e1⟩
  · rw [e1] at h; cases h
  · rw [e1] at h; cases h
  · rcases cnt_cases (o := p) hm with ⟨_, e2⟩ | ⟨_, _, e2⟩ | ⟨_, _, e2⟩
    · rw [e1, e2] at h; cases h
    · rw [e1, e2] at h; cases h
    · exact ⟨e1, e2⟩

theorem of_mul (n : Int) (hn : R64 n) : fMul (cnt false n) (some 1000000000000) = fOf n := by
  unfold fOf
  by_cases h : n = -9223372036854775808
  · subst h
    have e : cnt false (-9223372036854775808) = none := by decide +kernel
    rw [e]
    decide +kernel
  · rw [ex_cnt _ (by have := hn.1; omega)]
    show norm _ = norm _
    have : n * 1000000000000 = (n * 1000000) * 1000000 := by omega
    rw [this, Int.mul_tdiv_cancel _ (by decide)]
end Go.Proofs.YtajbjbnfklllkaaGreatDoor.Fx
/- The document's own Digits and Print: each for every argument. -/
namespace Go.Proofs.YtajbjbnfklllkaaGreatDoor.Fx
open Go.RowKit

theorem conv_one (W : World) (R : Nat) (h : R < 10) : (convert 44 9 (.slice (some ⟨W.heap.size, 0, none⟩) 1 1)).run Tryz.prog (W.alloc (.cells #[.int .u8 (48 + (R : Int))] 5)) = .ok (.string ⟨#[UInt8.ofNat (48 + R)]⟩) (W.alloc (.cells #[.int .u8 (48 + (R : Int))] 5)) := by
  refine run_convert_bytes_back (P := Tryz.prog) (W.alloc (.cells #[.int .u8 (48 + (R : Int))] 5)) 44 9 5 ⟨W.heap.size, 0, none⟩ 1 [UInt8.ofNat (48 + R)] Tryz.underlying44 Tryz.underlying5 Tryz.underlying9 (fun j hj => ?_)
  obtain rfl : j = 0 := by simpa using hj
  rw [Lib.add_plain, World.cell?_alloc_new]
  have : (UInt8.ofNat (48 + R)).toNat = 48 + R := by
    rw [UInt8.toNat_ofNat']
    omega
  show some (Value.int .u8 (48 + (R : Int))) = some (.int .u8 ((UInt8.ofNat (48 + R)).toNat : Int))
  rw [this]
  congr 2
set_option maxRecDepth 20000 in
set_option maxHeartbeats 1000000 in
theorem rdigits_any (u : Nat) (w : World) (hu : u < 18446744073709551616) : Calls Tryz.prog 15 #[.int .u64 u] w fun e w' => e = .returned (.string ⟨(Lib.decDigits u).toArray⟩) ∧ Below w.heap.size w w' := by
  have hap := ba_append
  have hlen := dec_short hu
  go_enter Tryz.func15, Tryz.ntmps15
  go_wp2_with fail
  go_loopw [0, 3] (fun a b wr => ∃ (v : Nat) (t : List UInt8), a = .int .u64 v ∧ b = .string ⟨t.toArray⟩ ∧ Hid (Lib.decDigits v ++ t = Lib.decDigits u) ∧ v ≤ u ∧ Below w.heap.size w wr) (fun a _ _ => (intOf a).toNat + 1)
  case atStart => exact ⟨u, [], rfl, rfl, by show _ = _; simp, Nat.le_refl _, Below.refl _ _⟩
  case round =>
    obtain ⟨v, t, rfl, rfl, hd, hv, hbw⟩ := hrel
    have hl : (Lib.decDigits v).length + t.length ≤ 20 := by rw [← List.length_append, hd.out]; exact hlen
    obtain ⟨R, hR⟩ : ∃ R, v % 10 = R := ⟨_, rfl⟩
    obtain ⟨Q, hQ⟩ : ∃ Q, v / 10 = Q := ⟨_, rfl⟩
    have e1 : (v : Int) % 10 = (R : Int) := by omega
    have e2 : (v : Int) / 10 = (Q : Int) := by omega
    have hR10 : R < 10 := by omega
    have hcv := conv_one wr R hR10
    have hQm : Q < 1844674407370955162 := by omega
    obtain ⟨c, hc⟩ : ∃ c, UInt8.ofNat (48 + R) = c := ⟨_, rfl⟩
    rw [hc] at hcv
    have hlt : t.length ≤ 20 := by omega
    by_cases hq : Q = 0
    · have HD : Hid (Lib.decDigits u = c :: t) := by
        show _ = _
        rw [← hd.out, Lib.decDigits_one (by omega)]
        have : v = R := by omega
        rw [this, hc]
        rfl
      have hq' : (Q : Int) = 0 := by omega
      clear hR hQ hv hl hc
      go_wp2_with fail
      go_ret
      exact ⟨by rw [HD.out]; rfl, bal hbw _⟩
    · have hv10 : Lib.decDigits v = Lib.decDigits Q ++ [c] := by rw [Lib.decDigits, dif_neg (by omega), hQ, hR, hc]
      have HD : Hid (Lib.decDigits Q ++ (c :: t) = Lib.decDigits u) := by
        show _ = _
        rw [← hd.out, hv10]
        simp
      have hq' : ¬ (Q : Int) = 0 := by omega
      have hQu : Q ≤ u ∧ Q < v := by omega
      have HQ : Hid _ := hQu
      clear hR hQ hv hl hQu hv10 hc
      go_wp2_with fail
      go_roundw
      case rel => exact ⟨Q, c :: t, rfl, rfl, HD, HQ.out.1, bal hbw _⟩
      case measure => have := HQ.out.2; simp [intOf]; omega

theorem ba_lastget {t : List UInt8} (h : t.length - 1 < (⟨t.toArray⟩ : ByteArray).size) : t.getLast? = some ((⟨t.toArray⟩ : ByteArray)[t.length - 1]'h) := by
  have hl : t.length - 1 < t.length := by rw [ba_size] at h; exact h
  rw [List.getLast?_eq_getElem?, List.getElem?_eq_getElem hl]
  rfl
theorem snoc_of_last {t : List UInt8} (h : t.getLast? = some 48) : t = t.take (t.length - 1) ++ [48] := by
  obtain ⟨ys, rfl⟩ := List.getLast?_eq_some_iff.1 h
  simp

set_option maxRecDepth 20000 in
set_option maxHeartbeats 4000000 in
theorem rprint_some (n : Int) (w : World) (hn : R64 n) (hi : fIs false n = true) : Calls Tryz.prog 23 #[.agg #[.bool false, .int .i64 n]] w fun e w' => e = .returned (.string ⟨((if n < 0 then [45] else []) ++ prU n.natAbs).toArray⟩) ∧ Below w.heap.size w w' := by
  have hx := Box.new w false n
  have hb0 : Below w.heap.size w (w.alloc (.cells #[.bool false, .int .i64 n] 34)) := bal (Below.refl _ _) _
  have hmag := fun w => size_any n w hn.1 hn.2
  have hm : n.natAbs < 18446744073709551616 := abs_lt hn
  generalize n.natAbs = M at *
  unfold prU
  obtain ⟨Q, hQ⟩ : ∃ Q, M / 1000000 = Q := ⟨_, rfl⟩
  obtain ⟨R, hR⟩ : ∃ R, M % 1000000 = R := ⟨_, rfl⟩
  have e1 : (M : Int) / 1000000 = (Q : Int) := by omega
  have e2 : (M : Int) % 1000000 = (R : Int) := by omega
  have hQm : Q < 18446744073709551616 := by omega
  have hRm : R < 1000000 := by omega
  rw [hQ, hR]
  clear hQ hR
  have HM : Hid _ := hm
  clear hm
  have hl1 := dec_short hQm
  have hF1 := fun w => rdigits_any Q w hQm
  have hF2 := fun w => rdigits_any (1000000 + R) w (by omega)
  have e3 : ((1000000 + R : Nat) : Int) = (R : Int) + 1000000 := by omega
  rw [e3] at hF2
  have hl3 := frac_short hRm
  have hap := ba_append
  have hdr := ba_drop (Lib.decDigits (1000000 + R)) 1
  have hl4 : 1 ≤ (Lib.decDigits (1000000 + R)).length := by rw [Lib.decDigits_length]; exact Lib.nDigits_pos _
  have hl2 := dec_short (by omega : 1000000 + R < 18446744073709551616)
  have hl5 : (Lib.decDigits (1000000 + R)).tail.length ≤ 20 := by rw [List.length_tail]; omega
  have HT : Hid (Lib.trimRightB (Lib.decDigits (1000000 + R)).tail 48 = fracT R) := rfl
  have H0 : Hid (R = 0 → fracT R = []) := fun h => by rw [h]; exact frac_zero
  have H1 : Hid (¬ R = 0 → fracT R ≠ []) := fun h => frac_ne hRm h
  generalize Lib.decDigits (1000000 + R) = G at *
  generalize Lib.decDigits Q = A at *
  go_enter Tryz.func23, Tryz.ntmps23
  go_wp2_with fail
  refine (ris_any _ _ _ hn.1).mono ?_
  rintro e w1 ⟨rfl, hb1⟩
  rw [hi]
  have hx1 := hx.later hb1
  obtain ⟨c0, c1, f0, f1⟩ := id hx1
  go_wp2_with (go_at_call 43; refine (hmag _).mono ?_; rintro e w' ⟨rfl, rfl⟩)
  refine (hF1 _).mono ?_
  rintro e w2 ⟨rfl, hb2⟩
  go_wp2_with fail
  refine (hF2 _).mono ?_
  rintro e w3 ⟨rfl, hb3⟩
  have hb4 := Below.chain hb1 (Below.chain hb2 hb3)
  have hx4 := hx.later hb4
  have hb5 := Below.chain hb0 hb4
  clear c0 c1 f0 f1
  go_wp2_with fail
  go_loop [5] (fun b => ∃ t : List UInt8, b = .string ⟨t.toArray⟩ ∧ Hid (Lib.trimRightB t 48 = fracT R) ∧ t.length ≤ 20) (fun b => match b with | .string s => s.size | _ => 0)
  case atStart => exact ⟨G.tail, rfl, HT, hl5⟩
  case round =>
    obtain ⟨t, rfl, ht, htl⟩ := hrel
    by_cases h0 : t.length = 0
    · obtain rfl : t = [] := List.eq_nil_of_length_eq_zero h0
      have hf : fracT R = [] := by rw [← ht.out]; rfl
      have hR0 : R = 0 := by
        by_cases h : R = 0
        · exact h
        · exact (H1.out h hf).elim
      have HR0 : Hid _ := hR0
      obtain ⟨c0, c1, f0, f1⟩ := hx4
      clear hR0 hf
      by_cases hneg : n < 0
      · go_wp2_with fail
        go_ret
        exact ⟨by first | rfl | (rw [if_pos HR0.out]; simp), hb5⟩
      · go_wp2_with fail
        go_ret
        exact ⟨by first | rfl | (rw [if_pos HR0.out]; simp), hb5⟩
    · have hbl : t.length - 1 < (⟨t.toArray⟩ : ByteArray).size := by rw [ba_size]; omega
      have hg := ba_lastget hbl
      have h0' : (0 : Int) < t.length := by omega
      have htk := ba_take t (t.length - 1)
      have e5 : ((t.length : Int) - 1).toNat = t.length - 1 := by omega
      by_cases h48 : ((⟨t.toArray⟩ : ByteArray)[t.length - 1]'hbl) = 48
      · have hs := snoc_of_last (hg.trans (congrArg some h48))
        have ht2 : Hid (Lib.trimRightB (t.take (t.length - 1)) 48 = fracT R) := by
          show _ = _
          rw [← ht.out]
          conv => rhs; rw [hs]
          rw [trim_snoc]
        have h48' : (((⟨t.toArray⟩ : ByteArray)[t.length - 1]'hbl).toNat : Int) = 48 := by rw [h48]; rfl
        clear hs hg h48
        go_wp2_with fail
        go_round
        case rel => exact ⟨t.take (t.length - 1), rfl, ht2, by rw [List.length_take]; omega⟩
        case measure =>
          show (⟨(t.take (t.length - 1)).toArray⟩ : ByteArray).size < (⟨t.toArray⟩ : ByteArray).size
          rw [ba_size, ba_size, List.length_take]
          omega
      · have h48' : ¬ (((⟨t.toArray⟩ : ByteArray)[t.length - 1]'hbl).toNat : Int) = 48 := fun e => h48 (UInt8.toNat_inj.1 (by show _ = 48; omega))
        have hf : fracT R = t := by
          rw [← ht.out]
          exact trim_id (by rw [hg]; intro e; exact h48 (Option.some.inj e))
        have hR0 : ¬ R = 0 := fun h => by
          rw [H0.out h] at hf
          rw [← hf] at h0
          exact h0 rfl
        have HR0 : Hid (¬ R = 0) := hR0
        have HF : Hid _ := hf
        have hne : ¬ t = [] := fun h => h0 (by rw [h]; rfl)
        have hneb : (t == []) = false := by simpa using hne
        have hneb2 : (t != []) = true := by simpa using hne
        obtain ⟨c0, c1, f0, f1⟩ := hx4
        clear hR0 hf hg h48
        by_cases hneg : n < 0
        · go_wp2_with fail
          go_ret
          exact ⟨by first | rfl | (rw [HF.out]; rfl) | (rw [if_neg HR0.out, HF.out]; simp), hb5⟩
        · go_wp2_with fail
          go_ret
          exact ⟨by first | rfl | (rw [HF.out]; rfl) | (rw [if_neg HR0.out, HF.out]; simp), hb5⟩

set_option maxHeartbeats 1000000 in
theorem rprint_any (o : Bool) (n : Int) (w : World) (hn : R64 n) : Calls Tryz.prog 23 #[.agg #[.bool o, .int .i64 n]] w fun e w' => e = .returned (.string ⟨(fPrint (cnt o n)).toArray⟩) ∧ Below w.heap.size w w' := by
  have hb0 : Below w.heap.size w (w.alloc (.cells #[.bool o, .int .i64 n] 34)) := bal (Below.refl _ _) _
  rcases cnt_cases (o := o) hn.1 with ⟨rfl, e1⟩ | ⟨rfl, i1, e1⟩ | ⟨rfl, i1, e1⟩
  · rw [e1]
    go_enter Tryz.func23, Tryz.ntmps23
    go_wp2_with fail
    go_ret
    exact ⟨rfl, hb0⟩
  · rw [e1]
    go_enter Tryz.func23, Tryz.ntmps23
    go_wp2_with fail
    refine (ris_any _ _ _ hn.1).mono ?_
    rintro e w1 ⟨rfl, hb1⟩
    rw [i1]
    go_wp2_with fail
    go_ret
    exact ⟨rfl, Below.chain hb0 hb1⟩
  · rw [e1]
    exact rprint_some n w hn i1
end Go.Proofs.YtajbjbnfklllkaaGreatDoor.Fx
/- The document's own digits and Parse: for every text of at most a thousand bytes. -/
namespace Go.Proofs.YtajbjbnfklllkaaGreatDoor.Fx
open Go.RowKit

set_option maxHeartbeats 1000000 in
theorem rdig_any (l : List UInt8) (w : World) (hl : l.length ≤ 1000) :
    Calls Tryz.prog 73 #[.string ⟨l.toArray⟩] w fun e w' => (∃ k : Nat, k ≤ l.length ∧ dgs (l.take k) = true ∧ (k = l.length ∨ ∃ h : k < l.length, isDg l[k] = false) ∧ e = .returned (.int .i64 k)) ∧ w = w' := by
  go_enter Tryz.func73, Tryz.ntmps73
  go_wp2_with fail
  go_loop [3] (fun i => ∃ k : Nat, k ≤ l.length ∧ i = .int .i64 k ∧ Hid (dgs (l.take k) = true)) (fun i => l.length - (intOf i).toNat)
  case atStart => exact ⟨0, by omega, rfl, rfl⟩
  case round =>
    obtain ⟨k, hk, rfl, hd⟩ := hrel
    by_cases hlt : k < l.length
    · have hbk := ba_lt hlt
      by_cases hc1 : 48 ≤ (((⟨l.toArray⟩ : ByteArray)[k]'hbk).toNat : Int)
      · by_cases hc2 : (((⟨l.toArray⟩ : ByteArray)[k]'hbk).toNat : Int) ≤ 57
        · have hd' : Hid (dgs (l.take (k + 1)) = true) := by
            show dgs (l.take (k + 1)) = true
            rw [take_snocB l k hlt, dgs_snoc, hd.out]
            simp only [Bool.true_and]
            exact decide_eq_true ⟨hc1, hc2⟩
          go_wp2_with fail
          go_round
          case rel => exact ⟨k + 1, by omega, by go_num, hd'⟩
          case measure => simp [intOf]; omega
        · have hf : Hid (isDg l[k] = false) := decide_eq_false (fun h => hc2 h.2)
          go_wp2_with fail
          go_ret
          exact ⟨⟨k, hk, hd.out, Or.inr ⟨hlt, hf.out⟩, rfl⟩, rfl⟩
      · have hf : Hid (isDg l[k] = false) := decide_eq_false (fun h => hc1 h.1)
        go_wp2_with fail
        go_ret
        exact ⟨⟨k, hk, hd.out, Or.inr ⟨hlt, hf.out⟩, rfl⟩, rfl⟩
    · go_wp2_with fail
      go_ret
      exact ⟨⟨k, hk, hd.out, Or.inl (by omega), rfl⟩, rfl⟩

theorem dgs_at {t : List UInt8} {k a : Nat} (hk : k ≤ t.length) (hd : dgs (t.take k) = true) (h : a < k) : 48 ≤ (((⟨t.toArray⟩ : ByteArray)[a]'(ba_lt (by omega))).toNat : Int) ∧ (((⟨t.toArray⟩ : ByteArray)[a]'(ba_lt (by omega))).toNat : Int) ≤ 57 := by
  have hl : a < (t.take k).length := by rw [List.length_take]; omega
  have := dgs_get hd a hl
  rw [List.getElem_take] at this
  exact this
theorem rd_bound {t : List UInt8} {k a : Nat} (hk : k ≤ t.length) (hd : dgs (t.take k) = true) (h : a ≤ k) : rd (t.take a) < 10 ^ a := by
  have hl : a ≤ (t.take k).length := by rw [List.length_take]; omega
  have := rd_lt a (t.take k) hd hl
  rw [List.take_take, Nat.min_eq_left h] at this
  exact this
theorem rd_next {t : List UInt8} {a : Nat} (h : a < t.length) : rd (t.take (a + 1)) = rd (t.take a) * 10 + (((⟨t.toArray⟩ : ByteArray)[a]'(ba_lt h)).toNat - 48) := by
  rw [take_snocB t a h, rd_snoc]
  rfl
theorem ten13 {a : Nat} (h : a ≤ 13) : 10 ^ a ≤ 10000000000000 := by
  have : 10 ^ a ≤ 10 ^ 13 := Nat.pow_le_pow_right (by omega) h
  exact this

theorem digits_six {r : List UInt8} (hd : dgs r = true) (h1 : 1 ≤ r.length) (h6 : r.length ≤ 6) : fDigits r 6 = true := by
  unfold fDigits
  rw [decide_eq_true h1, decide_eq_true h6, hd]
  rfl
def fr (r : List UInt8) (b : Nat) : Nat := rd (r.take b) * 10 ^ (b - r.length)
theorem fr_zero (r : List UInt8) : fr r 0 = 0 := by
  unfold fr
  rw [List.take_zero, Nat.zero_sub]
  rfl
theorem ten6 {a : Nat} (h : a ≤ 6) : 10 ^ a ≤ 1000000 := by
  have : 10 ^ a ≤ 10 ^ 6 := Nat.pow_le_pow_right (by omega) h
  exact this
theorem fr_lt {r : List UInt8} (hd : dgs r = true) (b : Nat) : fr r b < 10 ^ b := by
  unfold fr
  by_cases h : b ≤ r.length
  · have := rd_lt b r hd h
    rw [show b - r.length = 0 by omega, Nat.pow_zero, Nat.mul_one]
    exact this
  · have h1 := rd_lt r.length r hd (Nat.le_refl _)
    have e : r.take b = r := List.take_of_length_le (by omega)
    rw [List.take_of_length_le (Nat.le_refl _)] at h1
    rw [e]
    have h2 : rd r * 10 ^ (b - r.length) < 10 ^ r.length * 10 ^ (b - r.length) := (Nat.mul_lt_mul_right (Nat.pos_of_ne_zero (by simp))).2 h1
    rw [← Nat.pow_add, show r.length + (b - r.length) = b by omega] at h2
    exact h2
theorem fr_in {t : List UInt8} {a b : Nat} (h : b < (t.drop a).length) (h' : a + b < t.length) : fr (t.drop a) (b + 1) = fr (t.drop a) b * 10 + (((⟨t.toArray⟩ : ByteArray)[a + b]'(ba_lt h')).toNat - 48) := by
  unfold fr
  rw [take_snocB _ b h, rd_snoc, show b + 1 - (t.drop a).length = 0 by omega, show b - (t.drop a).length = 0 by omega, Nat.pow_zero, Nat.mul_one, Nat.mul_one, List.getElem_drop]
  rfl
theorem fr_out {r : List UInt8} {b : Nat} (h : r.length ≤ b) : fr r (b + 1) = fr r b * 10 := by
  unfold fr
  rw [List.take_of_length_le (show r.length ≤ b + 1 by omega), List.take_of_length_le h, show b + 1 - r.length = b - r.length + 1 by omega, Nat.pow_succ, Nat.mul_assoc]
theorem fr_six {r : List UInt8} (h : r.length ≤ 6) : fr r 6 = rd r * 10 ^ (6 - r.length) := by
  unfold fr
  rw [List.take_of_length_le h]
theorem dgs_off {t : List UInt8} {a b : Nat} (hd : dgs (t.drop a) = true) (h : b < (t.drop a).length) (h' : a + b < t.length) : 48 ≤ (((⟨t.toArray⟩ : ByteArray)[a + b]'(ba_lt h')).toNat : Int) ∧ (((⟨t.toArray⟩ : ByteArray)[a + b]'(ba_lt h')).toNat : Int) ≤ 57 := by
  have := dgs_get hd b h
  rw [List.getElem_drop] at this
  exact this
theorem no_digits {r : List UInt8} {j : Nat} (he : j = r.length ∨ ∃ h : j < r.length, isDg r[j] = false) (h : ¬ (1 ≤ j ∧ j ≤ 6 ∧ j = r.length)) : fDigits r 6 = false := by
  rcases he with e | ⟨h1, h2⟩
  · have : ¬ (1 ≤ r.length ∧ r.length ≤ 6) := by omega
    unfold fDigits
    by_cases h1 : 1 ≤ r.length
    · rw [decide_eq_false (show ¬ r.length ≤ 6 by omega)]
      simp
    · rw [decide_eq_false h1]
      rfl
  · have : dgs r = false := by
      unfold dgs
      exact List.all_eq_false.2 ⟨r[j], List.getElem_mem h1, by simp [h2]⟩
    unfold fDigits
    rw [this]
    simp
theorem head_is {t : List UInt8} (h : 0 < t.length) (h3 : (((⟨t.toArray⟩ : ByteArray)[0]'(ba_lt h)).toNat : Int) = 48) : t.head? = some 48 := by
  cases t with
  | nil => cases h
  | cons c r =>
    have h4 : (c.toNat : Int) = 48 := h3
    have h5 : c = 48 := UInt8.toNat_inj.1 (by show c.toNat = 48; omega)
    rw [h5]
    rfl
theorem head_isnt {t : List UInt8} (h : 0 < t.length) (h3 : ¬ (((⟨t.toArray⟩ : ByteArray)[0]'(ba_lt h)).toNat : Int) = 48) : t.head? ≠ some 48 := by
  intro e
  cases t with
  | nil => cases h
  | cons c r =>
    cases e
    exact h3 rfl

def pk (r : Option (Option Int)) : Bool := r.isSome

set_option maxHeartbeats 4000000 in
theorem rparse_any (l : List UInt8) (w : World) (hl : l.length ≤ 1000) :
    Calls Tryz.prog 55 #[.string ⟨l.toArray⟩] w fun e w' => e = .returned (.tuple #[.agg #[.bool (po (fParse l)), .int .i64 (pn (fParse l))], .bool (pk (fParse l))]) ∧ Below w.heap.size w w' := by
  have hx := Box.new w false 0
  have hb0 : Below w.heap.size w (w.alloc (.cells #[.bool false, .int .i64 0] 34)) := bal (Below.refl _ _) _
  by_cases ho : l = [111, 118, 102]
  · subst ho
    go_enter Tryz.func55, Tryz.ntmps55
    go_wp2_with fail
    refine (ovf_any _).mono ?_
    rintro e w1 ⟨rfl, hb1⟩
    obtain ⟨c0, c1, f0, f1⟩ := hx.later hb1
    go_wp2
    exact bodyPost_ret (v := .tuple #[.agg #[.bool true, .int .i64 0], .bool true]) (by simp [results, Tryz.results55, go_sem, c0, c1]) rfl ⟨rfl, put2 (Below.chain hb0 hb1) (by omega) _ _⟩
  · have ho' : (l == [111, 118, 102]) = false := by simpa using ho
    rw [gP_parse ho]
    by_cases h0 : 0 < l.length
    · have hbk := ba_lt h0
      by_cases h3 : (((⟨l.toArray⟩ : ByteArray)[0]'hbk).toNat : Int) = 45
      · obtain ⟨hm, ht⟩ := minus_true h0 h3
        rw [hm, ht]
        clear hm ht ho
        have td := ba_drop l 1
        have h0' : (0 : Int) < l.length := by omega
        obtain ⟨t, hte⟩ : ∃ t, l.tail = t := ⟨_, rfl⟩
        have hlt : t.length ≤ 1000 := by rw [← hte, List.length_tail]; omega
        have hdt : l.drop 1 = t := by rw [List.drop_one]; exact hte
        rw [hdt]
        clear hdt
        go_enter Tryz.func55, Tryz.ntmps55
        go_wp2_with fail
        clear td
        refine (rdig_any t _ hlt).mono ?_
        rintro e w1 ⟨⟨k, hk, hd, he, rfl⟩, rfl⟩
        have HD : Hid _ := hd
        have HE : Hid _ := he
        clear hd he
        by_cases g1 : 1 ≤ k
        · by_cases g2 : k ≤ 13
          · have g1' : ¬ (k : Int) < 1 := by omega
            have g2' : ¬ (13 : Int) < (k : Int) := by omega
            by_cases g3 : k = 1
            · have g3' : ¬ (1 : Int) < (k : Int) := by omega
              have HG : Hid (good k t) := ⟨g1, g2, Or.inl g3⟩
              clear g3
              go_wp2_with fail
              go_loop [6, 7] (fun n i => ∃ a : Nat, a ≤ k ∧ i = .int .i64 a ∧ n = .int .u64 (rd (t.take a))) (fun _ i => k - (intOf i).toNat)
              case atStart => exact ⟨0, by omega, rfl, rfl⟩
              case round =>
                obtain ⟨a, hak, rfl, rfl⟩ := hrel
                by_cases hlt1 : a < k
                · have hat : a < t.length := by omega
                  have hbk1 := ba_lt hat
                  obtain ⟨hc1, hc2⟩ := dgs_at hk HD.out hlt1
                  have hr0 := rd_bound hk HD.out hak
                  have hr : rd (t.take a) < 10000000000000 := by have := ten13 (show a ≤ 13 by omega); omega
                  have HS : Hid _ := rd_next hat
                  clear hr0
                  generalize rd (t.take a) = r at *
                  go_wp2_with fail
                  go_round
                  case rel => exact ⟨a + 1, by omega, by go_num, by rw [HS.out]; go_num⟩
                  case measure => simp [intOf]; omega
                · obtain rfl : a = k := by omega
                  have hr0 := rd_bound hk HD.out hak
                  have hr : rd (t.take a) < 10000000000000 := by have := ten13 (show a ≤ 13 by omega); omega
                  clear hr0
                  by_cases hR : a < t.length
                  · have hR' : (a : Int) < (t.length : Int) := by omega
                    have hbk2 := ba_lt hR
                    have td := ba_drop t (a + 1)
                    go_wp2_with fail
                    clear td
                    have hrl1 : (t.drop (a + 1)).length + (a + 1) ≤ t.length := by rw [List.length_drop]; omega
                    have hrl2 : t.length ≤ (t.drop (a + 1)).length + (a + 1) := by rw [List.length_drop]; omega
                    refine (rdig_any (t.drop (a + 1)) _ (by omega)).mono ?_
                    rintro e w1 ⟨⟨j, hj, hd2, he2, rfl⟩, rfl⟩
                    have HD2 : Hid _ := hd2
                    have HE2 : Hid _ := he2
                    clear hd2 he2
                    by_cases p1 : (((⟨t.toArray⟩ : ByteArray)[a]'hbk2).toNat : Int) = 46
                    · have P46 : Hid (t[a] = 46) := UInt8.toNat_inj.1 (by show t[a].toNat = 46; have : (t[a].toNat : Int) = 46 := p1; omega)
                      by_cases p2 : 1 ≤ j ∧ j ≤ 6 ∧ a + 1 + j = t.length
                      · obtain ⟨q1, q2, q3⟩ := p2
                        have q1' : ¬ (j : Int) < 1 := by omega
                        have q2' : ¬ (6 : Int) < (j : Int) := by omega
                        have q3' : ((a : Int) + 1 + (j : Int) != (t.length : Int)) = false := by rw [bne_eq_false_iff_eq]; omega
                        have HJR : Hid (j = (t.drop (a + 1)).length) := by show j = _; omega
                        have HDR : Hid (dgs (t.drop (a + 1)) = true) := by
                          have := HD2.out
                          rw [HJR.out, List.take_of_length_le (Nat.le_refl _)] at this
                          exact this
                        have Hres : Hid _ := gP_good (m := true) hR HD.out P46.out HG.out (digits_six HDR.out (by omega) (by omega))
                        go_wp2_with fail
                        go_loop [8, 10] (fun f i => ∃ b : Nat, b ≤ 6 ∧ i = .int .i64 b ∧ f = .int .u64 (fr (t.drop (a + 1)) b)) (fun _ i => 6 - (intOf i).toNat)
                        case atStart => exact ⟨0, by omega, rfl, by rw [fr_zero]; rfl⟩
                        case round =>
                          obtain ⟨b, hb6, rfl, rfl⟩ := hrel
                          have hfl := fr_lt HDR.out b
                          by_cases hb : b < 6
                          · have hfl' : fr (t.drop (a + 1)) b < 1000000 := Nat.lt_of_lt_of_le hfl (ten6 hb6)
                            clear hfl
                            by_cases hbj : b < j
                            · have hbr : b < (t.drop (a + 1)).length := by omega
                              have hat2 : a + 1 + b < t.length := by omega
                              have hbk3 := ba_lt hat2
                              obtain ⟨hc1, hc2⟩ := dgs_off HDR.out hbr hat2
                              have HS : Hid _ := fr_in hbr hat2
                              have hbj' : (b : Int) < (j : Int) := by omega
                              generalize fr (t.drop (a + 1)) b = N at *
                              go_wp2_with fail
                              go_round
                              case rel => exact ⟨b + 1, by omega, by go_num, by rw [HS.out]; go_num⟩
                              case measure => simp [intOf]; omega
                            · have HS : Hid _ := fr_out (r := t.drop (a + 1)) (b := b) (by omega)
                              have hbj' : ¬ (b : Int) < (j : Int) := by omega
                              generalize fr (t.drop (a + 1)) b = N at *
                              go_wp2_with fail
                              go_round
                              case rel => exact ⟨b + 1, by omega, by go_num, by rw [HS.out]; go_num⟩
                              case measure => simp [intOf]; omega
                          · obtain rfl : b = 6 := by omega
                            have hfl' : fr (t.drop (a + 1)) 6 < 1000000 := hfl
                            clear hfl
                            have HS : Hid _ := fr_six (r := t.drop (a + 1)) (by omega)
                            generalize rd (t.take a) = r at *
                            generalize fr (t.drop (a + 1)) 6 = N at *
                            have ew : IntKind.u64.wrap ((r : Int) * 1000000) = ((r * 1000000 : Nat) : Int) := by rw [IntKind.wrap_u64]; omega
                            have ew2 : IntKind.u64.wrap (((r * 1000000 : Nat) : Int) + (N : Int)) = ((r * 1000000 + N : Nat) : Int) := by rw [IntKind.wrap_u64]; omega
                            have ew3 : IntKind.u64.wrap ((r : Int) * 1000000 + (N : Int)) = ((r * 1000000 + N : Nat) : Int) := by rw [IntKind.wrap_u64]; omega
                            have hs52 := fun W => rsigned_any true (r * 1000000 + N) W (by omega)
                            generalize hNN : r * 1000000 + N = M at *
                            have HNN : Hid _ := hNN
                            clear hNN
                            go_wp2_with fail
                            refine (hs52 _).mono ?_
                            rintro e w2 ⟨rfl, hb2⟩
                            obtain ⟨c0, c1, f0, f1⟩ := hx.later hb2
                            go_wp2
                            exact bodyPost_ret (v := .tuple #[.agg #[.bool (ov (sgn true M)), .int .i64 (nn (sgn true M))], .bool true]) (by simp [results, Tryz.results55, go_sem, c0, c1]) rfl ⟨by rw [Hres.out, ← HS.out, HNN.out]; rfl, put2 (Below.chain hb0 hb2) (by omega) _ _⟩
                      · have hfd : fDigits (t.drop (a + 1)) 6 = false := no_digits HE2.out (by omega)
                        have hno : gP true t = none := gP_bad hR HD.out P46.out hfd
                        have HN : Hid _ := hno
                        clear hno
                        obtain ⟨c0, c1, f0, f1⟩ := id hx
                        by_cases q1 : 1 ≤ j
                        · have q1' : ¬ (j : Int) < 1 := by omega
                          by_cases q2 : j ≤ 6
                          · have q2' : ¬ (6 : Int) < (j : Int) := by omega
                            have q3' : ((a : Int) + 1 + (j : Int) != (t.length : Int)) = true := by rw [bne_iff_ne]; omega
                            go_wp2_with fail
                            exact bodyPost_ret (v := .tuple #[.agg #[.bool false, .int .i64 0], .bool false]) (by simp [results, Tryz.results55, go_sem, c0, c1]) rfl ⟨by rw [HN.out]; rfl, hb0⟩
                          · have q2' : (6 : Int) < (j : Int) := by omega
                            go_wp2_with fail
                            exact bodyPost_ret (v := .tuple #[.agg #[.bool false, .int .i64 0], .bool false]) (by simp [results, Tryz.results55, go_sem, c0, c1]) rfl ⟨by rw [HN.out]; rfl, hb0⟩
                        · have q1' : (j : Int) < 1 := by omega
                          go_wp2_with fail
                          exact bodyPost_ret (v := .tuple #[.agg #[.bool false, .int .i64 0], .bool false]) (by simp [results, Tryz.results55, go_sem, c0, c1]) rfl ⟨by rw [HN.out]; rfl, hb0⟩
                    · have hno : gP true t = none := gP_char hR HD.out (by rcases HE.out with h | ⟨h, h'⟩; (omega); exact h') (fun h => p1 (by show ((t[a].toNat : Nat) : Int) = 46; rw [h]; rfl))
                      have HN : Hid _ := hno
                      clear hno
                      have p1' : ((((⟨t.toArray⟩ : ByteArray)[a]'hbk2).toNat : Int) == 46) = false := beq_eq_false_iff_ne.2 p1
                      obtain ⟨c0, c1, f0, f1⟩ := id hx
                      go_wp2_with fail
                      exact bodyPost_ret (v := .tuple #[.agg #[.bool false, .int .i64 0], .bool false]) (by simp [results, Tryz.results55, go_sem, c0, c1]) rfl ⟨by rw [HN.out]; rfl, hb0⟩
                  · have hR' : ¬ (a : Int) < (t.length : Int) := by omega
                    have E0 : Hid (a = t.length) := by show a = t.length; omega
                    have hall : Hid _ := gP_all (m := true) (t := t) (by have := HD.out; rw [E0.out, List.take_of_length_le (Nat.le_refl _)] at this; exact this) (by rw [← E0.out]; exact HG.out)
                    have e1 : rd (t.take a) = rd t := by rw [List.take_of_length_le (by omega)]
                    rw [e1] at hr
                    rw [e1]
                    clear e1
                    generalize rd t = r at *
                    have ew : IntKind.u64.wrap ((r : Int) * 1000000) = ((r * 1000000 : Nat) : Int) := by rw [IntKind.wrap_u64]; omega
                    have ew2 : IntKind.u64.wrap ((r * 1000000 : Nat) : Int) = ((r * 1000000 : Nat) : Int) := by rw [IntKind.wrap_u64]; omega
                    have hs52 := fun W => rsigned_any true (r * 1000000) W (by omega)
                    generalize r * 1000000 = N at *
                    go_wp2_with fail
                    refine (hs52 _).mono ?_
                    rintro e w2 ⟨rfl, hb2⟩
                    obtain ⟨c0, c1, f0, f1⟩ := hx.later hb2
                    go_wp2
                    exact bodyPost_ret (v := .tuple #[.agg #[.bool (ov (sgn true N)), .int .i64 (nn (sgn true N))], .bool true]) (by simp [results, Tryz.results55, go_sem, c0, c1]) rfl ⟨by rw [hall.out]; rfl, put2 (Below.chain hb0 hb2) (by omega) _ _⟩
            · have g3' : (1 : Int) < (k : Int) := by omega
              have ht0 : 0 < t.length := by omega
              have hbt := ba_lt ht0
              by_cases g4 : (((⟨t.toArray⟩ : ByteArray)[0]'hbt).toNat : Int) = 48
              · have hno : gP true t = none := gP_no hk HD.out HE.out (fun h => by
                  rcases h.2.2 with h | h
                  · omega
                  · exact h (head_is ht0 g4))
                have HN : Hid _ := hno
                clear hno
                obtain ⟨c0, c1, f0, f1⟩ := id hx
                go_wp2_with fail
                exact bodyPost_ret (v := .tuple #[.agg #[.bool false, .int .i64 0], .bool false]) (by simp [results, Tryz.results55, go_sem, c0, c1]) rfl ⟨by rw [HN.out]; rfl, hb0⟩
              · have HG : Hid (good k t) := ⟨g1, g2, Or.inr (head_isnt ht0 g4)⟩
                have g4' : ((((⟨t.toArray⟩ : ByteArray)[0]'hbt).toNat : Int) == 48) = false := beq_eq_false_iff_ne.2 g4
                go_wp2_with fail
                go_loop [6, 7] (fun n i => ∃ a : Nat, a ≤ k ∧ i = .int .i64 a ∧ n = .int .u64 (rd (t.take a))) (fun _ i => k - (intOf i).toNat)
                case atStart => exact ⟨0, by omega, rfl, rfl⟩
                case round =>
                  obtain ⟨a, hak, rfl, rfl⟩ := hrel
                  by_cases hlt1 : a < k
                  · have hat : a < t.length := by omega
                    have hbk1 := ba_lt hat
                    obtain ⟨hc1, hc2⟩ := dgs_at hk HD.out hlt1
                    have hr0 := rd_bound hk HD.out hak
                    have hr : rd (t.take a) < 10000000000000 := by have := ten13 (show a ≤ 13 by omega); omega
                    have HS : Hid _ := rd_next hat
                    clear hr0
                    generalize rd (t.take a) = r at *
                    go_wp2_with fail
                    go_round
                    case rel => exact ⟨a + 1, by omega, by go_num, by rw [HS.out]; go_num⟩
                    case measure => simp [intOf]; omega
                  · obtain rfl : a = k := by omega
                    have hr0 := rd_bound hk HD.out hak
                    have hr : rd (t.take a) < 10000000000000 := by have := ten13 (show a ≤ 13 by omega); omega
                    clear hr0
                    by_cases hR : a < t.length
                    · have hR' : (a : Int) < (t.length : Int) := by omega
                      have hbk2 := ba_lt hR
                      have td := ba_drop t (a + 1)
                      go_wp2_with fail
                      clear td
                      have hrl1 : (t.drop (a + 1)).length + (a + 1) ≤ t.length := by rw [List.length_drop]; omega
                      have hrl2 : t.length ≤ (t.drop (a + 1)).length + (a + 1) := by rw [List.length_drop]; omega
                      refine (rdig_any (t.drop (a + 1)) _ (by omega)).mono ?_
                      rintro e w1 ⟨⟨j, hj, hd2, he2, rfl⟩, rfl⟩
                      have HD2 : Hid _ := hd2
                      have HE2 : Hid _ := he2
                      clear hd2 he2
                      by_cases p1 : (((⟨t.toArray⟩ : ByteArray)[a]'hbk2).toNat : Int) = 46
                      · have P46 : Hid (t[a] = 46) := UInt8.toNat_inj.1 (by show t[a].toNat = 46; have : (t[a].toNat : Int) = 46 := p1; omega)
                        by_cases p2 : 1 ≤ j ∧ j ≤ 6 ∧ a + 1 + j = t.length
                        · obtain ⟨q1, q2, q3⟩ := p2
                          have q1' : ¬ (j : Int) < 1 := by omega
                          have q2' : ¬ (6 : Int) < (j : Int) := by omega
                          have q3' : ((a : Int) + 1 + (j : Int) != (t.length : Int)) = false := by rw [bne_eq_false_iff_eq]; omega
                          have HJR : Hid (j = (t.drop (a + 1)).length) := by show j = _; omega
                          have HDR : Hid (dgs (t.drop (a + 1)) = true) := by
                            have := HD2.out
                            rw [HJR.out, List.take_of_length_le (Nat.le_refl _)] at this
                            exact this
                          have Hres : Hid _ := gP_good (m := true) hR HD.out P46.out HG.out (digits_six HDR.out (by omega) (by omega))
                          go_wp2_with fail
                          go_loop [8, 10] (fun f i => ∃ b : Nat, b ≤ 6 ∧ i = .int .i64 b ∧ f = .int .u64 (fr (t.drop (a + 1)) b)) (fun _ i => 6 - (intOf i).toNat)
                          case atStart => exact ⟨0, by omega, rfl, by rw [fr_zero]; rfl⟩
                          case round =>
                            obtain ⟨b, hb6, rfl, rfl⟩ := hrel
                            have hfl := fr_lt HDR.out b
                            by_cases hb : b < 6
                            · have hfl' : fr (t.drop (a + 1)) b < 1000000 := Nat.lt_of_lt_of_le hfl (ten6 hb6)
                              clear hfl
                              by_cases hbj : b < j
                              · have hbr : b < (t.drop (a + 1)).length := by omega
                                have hat2 : a + 1 + b < t.length := by omega
                                have hbk3 := ba_lt hat2
                                obtain ⟨hc1, hc2⟩ := dgs_off HDR.out hbr hat2
                                have HS : Hid _ := fr_in hbr hat2
                                have hbj' : (b : Int) < (j : Int) := by omega
                                generalize fr (t.drop (a + 1)) b = N at *
                                go_wp2_with fail
                                go_round
                                case rel => exact ⟨b + 1, by omega, by go_num, by rw [HS.out]; go_num⟩
                                case measure => simp [intOf]; omega
                              · have HS : Hid _ := fr_out (r := t.drop (a + 1)) (b := b) (by omega)
                                have hbj' : ¬ (b : Int) < (j : Int) := by omega
                                generalize fr (t.drop (a + 1)) b = N at *
                                go_wp2_with fail
                                go_round
                                case rel => exact ⟨b + 1, by omega, by go_num, by rw [HS.out]; go_num⟩
                                case measure => simp [intOf]; omega
                            · obtain rfl : b = 6 := by omega
                              have hfl' : fr (t.drop (a + 1)) 6 < 1000000 := hfl
                              clear hfl
                              have HS : Hid _ := fr_six (r := t.drop (a + 1)) (by omega)
                              generalize rd (t.take a) = r at *
                              generalize fr (t.drop (a + 1)) 6 = N at *
                              have ew : IntKind.u64.wrap ((r : Int) * 1000000) = ((r * 1000000 : Nat) : Int) := by rw [IntKind.wrap_u64]; omega
                              have ew2 : IntKind.u64.wrap (((r * 1000000 : Nat) : Int) + (N : Int)) = ((r * 1000000 + N : Nat) : Int) := by rw [IntKind.wrap_u64]; omega
                              have ew3 : IntKind.u64.wrap ((r : Int) * 1000000 + (N : Int)) = ((r * 1000000 + N : Nat) : Int) := by rw [IntKind.wrap_u64]; omega
                              have hs52 := fun W => rsigned_any true (r * 1000000 + N) W (by omega)
                              generalize hNN : r * 1000000 + N = M at *
                              have HNN : Hid _ := hNN
                              clear hNN
                              go_wp2_with fail
                              refine (hs52 _).mono ?_
                              rintro e w2 ⟨rfl, hb2⟩
                              obtain ⟨c0, c1, f0, f1⟩ := hx.later hb2
                              go_wp2
                              exact bodyPost_ret (v := .tuple #[.agg #[.bool (ov (sgn true M)), .int .i64 (nn (sgn true M))], .bool true]) (by simp [results, Tryz.results55, go_sem, c0, c1]) rfl ⟨by rw [Hres.out, ← HS.out, HNN.out]; rfl, put2 (Below.chain hb0 hb2) (by omega) _ _⟩
                        · have hfd : fDigits (t.drop (a + 1)) 6 = false := no_digits HE2.out (by omega)
                          have hno : gP true t = none := gP_bad hR HD.out P46.out hfd
                          have HN : Hid _ := hno
                          clear hno
                          obtain ⟨c0, c1, f0, f1⟩ := id hx
                          by_cases q1 : 1 ≤ j
                          · have q1' : ¬ (j : Int) < 1 := by omega
                            by_cases q2 : j ≤ 6
                            · have q2' : ¬ (6 : Int) < (j : Int) := by omega
                              have q3' : ((a : Int) + 1 + (j : Int) != (t.length : Int)) = true := by rw [bne_iff_ne]; omega
                              go_wp2_with fail
                              exact bodyPost_ret (v := .tuple #[.agg #[.bool false, .int .i64 0], .bool false]) (by simp [results, Tryz.results55, go_sem, c0, c1]) rfl ⟨by rw [HN.out]; rfl, hb0⟩
                            · have q2' : (6 : Int) < (j : Int) := by omega
                              go_wp2_with fail
                              exact bodyPost_ret (v := .tuple #[.agg #[.bool false, .int .i64 0], .bool false]) (by simp [results, Tryz.results55, go_sem, c0, c1]) rfl ⟨by rw [HN.out]; rfl, hb0⟩
                          · have q1' : (j : Int) < 1 := by omega
                            go_wp2_with fail
                            exact bodyPost_ret (v := .tuple #[.agg #[.bool false, .int .i64 0], .bool false]) (by simp [results, Tryz.results55, go_sem, c0, c1]) rfl ⟨by rw [HN.out]; rfl, hb0⟩
                      · have hno : gP true t = none := gP_char hR HD.out (by rcases HE.out with h | ⟨h, h'⟩; (omega); exact h') (fun h => p1 (by show ((t[a].toNat : Nat) : Int) = 46; rw [h]; rfl))
                        have HN : Hid _ := hno
                        clear hno
                        have p1' : ((((⟨t.toArray⟩ : ByteArray)[a]'hbk2).toNat : Int) == 46) = false := beq_eq_false_iff_ne.2 p1
                        obtain ⟨c0, c1, f0, f1⟩ := id hx
                        go_wp2_with fail
                        exact bodyPost_ret (v := .tuple #[.agg #[.bool false, .int .i64 0], .bool false]) (by simp [results, Tryz.results55, go_sem, c0, c1]) rfl ⟨by rw [HN.out]; rfl, hb0⟩
                    · have hR' : ¬ (a : Int) < (t.length : Int) := by omega
                      have E0 : Hid (a = t.length) := by show a = t.length; omega
                      have hall : Hid _ := gP_all (m := true) (t := t) (by have := HD.out; rw [E0.out, List.take_of_length_le (Nat.le_refl _)] at this; exact this) (by rw [← E0.out]; exact HG.out)
                      have e1 : rd (t.take a) = rd t := by rw [List.take_of_length_le (by omega)]
                      rw [e1] at hr
                      rw [e1]
                      clear e1
                      generalize rd t = r at *
                      have ew : IntKind.u64.wrap ((r : Int) * 1000000) = ((r * 1000000 : Nat) : Int) := by rw [IntKind.wrap_u64]; omega
                      have ew2 : IntKind.u64.wrap ((r * 1000000 : Nat) : Int) = ((r * 1000000 : Nat) : Int) := by rw [IntKind.wrap_u64]; omega
                      have hs52 := fun W => rsigned_any true (r * 1000000) W (by omega)
                      generalize r * 1000000 = N at *
                      go_wp2_with fail
                      refine (hs52 _).mono ?_
                      rintro e w2 ⟨rfl, hb2⟩
                      obtain ⟨c0, c1, f0, f1⟩ := hx.later hb2
                      go_wp2
                      exact bodyPost_ret (v := .tuple #[.agg #[.bool (ov (sgn true N)), .int .i64 (nn (sgn true N))], .bool true]) (by simp [results, Tryz.results55, go_sem, c0, c1]) rfl ⟨by rw [hall.out]; rfl, put2 (Below.chain hb0 hb2) (by omega) _ _⟩
          · have g1' : ¬ (k : Int) < 1 := by omega
            have g2' : (13 : Int) < (k : Int) := by omega
            have hno : gP true t = none := gP_no hk HD.out HE.out (fun h => g2 h.2.1)
            have HN : Hid _ := hno
            clear hno
            obtain ⟨c0, c1, f0, f1⟩ := id hx
            go_wp2_with fail
            exact bodyPost_ret (v := .tuple #[.agg #[.bool false, .int .i64 0], .bool false]) (by simp [results, Tryz.results55, go_sem, c0, c1]) rfl ⟨by rw [HN.out]; rfl, hb0⟩
        · have g1' : (k : Int) < 1 := by omega
          have hno : gP true t = none := gP_no hk HD.out HE.out (fun h => g1 h.1)
          have HN : Hid _ := hno
          clear hno
          obtain ⟨c0, c1, f0, f1⟩ := id hx
          go_wp2_with fail
          exact bodyPost_ret (v := .tuple #[.agg #[.bool false, .int .i64 0], .bool false]) (by simp [results, Tryz.results55, go_sem, c0, c1]) rfl ⟨by rw [HN.out]; rfl, hb0⟩
      · obtain ⟨hm, ht⟩ := minus_false h0 h3
        rw [hm, ht]
        clear hm ht ho
        have h0' : (0 : Int) < l.length := by omega
        have hlt := hl
        obtain ⟨t, rfl⟩ : ∃ t, t = l := ⟨l, rfl⟩
        go_enter Tryz.func55, Tryz.ntmps55
        go_wp2_with fail
        refine (rdig_any t _ hlt).mono ?_
        rintro e w1 ⟨⟨k, hk, hd, he, rfl⟩, rfl⟩
        have HD : Hid _ := hd
        have HE : Hid _ := he
        clear hd he
        by_cases g1 : 1 ≤ k
        · by_cases g2 : k ≤ 13
          · have g1' : ¬ (k : Int) < 1 := by omega
            have g2' : ¬ (13 : Int) < (k : Int) := by omega
            by_cases g3 : k = 1
            · have g3' : ¬ (1 : Int) < (k : Int) := by omega
              have HG : Hid (good k t) := ⟨g1, g2, Or.inl g3⟩
              clear g3
              go_wp2_with fail
              go_loop [6, 7] (fun n i => ∃ a : Nat, a ≤ k ∧ i = .int .i64 a ∧ n = .int .u64 (rd (t.take a))) (fun _ i => k - (intOf i).toNat)
              case atStart => exact ⟨0, by omega, rfl, rfl⟩
              case round =>
                obtain ⟨a, hak, rfl, rfl⟩ := hrel
                by_cases hlt1 : a < k
                · have hat : a < t.length := by omega
                  have hbk1 := ba_lt hat
                  obtain ⟨hc1, hc2⟩ := dgs_at hk HD.out hlt1
                  have hr0 := rd_bound hk HD.out hak
                  have hr : rd (t.take a) < 10000000000000 := by have := ten13 (show a ≤ 13 by omega); omega
                  have HS : Hid _ := rd_next hat
                  clear hr0
                  generalize rd (t.take a) = r at *
                  go_wp2_with fail
                  go_round
                  case rel => exact ⟨a + 1, by omega, by go_num, by rw [HS.out]; go_num⟩
                  case measure => simp [intOf]; omega
                · obtain rfl : a = k := by omega
                  have hr0 := rd_bound hk HD.out hak
                  have hr : rd (t.take a) < 10000000000000 := by have := ten13 (show a ≤ 13 by omega); omega
                  clear hr0
                  by_cases hR : a < t.length
                  · have hR' : (a : Int) < (t.length : Int) := by omega
                    have hbk2 := ba_lt hR
                    have td := ba_drop t (a + 1)
                    go_wp2_with fail
                    clear td
                    have hrl1 : (t.drop (a + 1)).length + (a + 1) ≤ t.length := by rw [List.length_drop]; omega
                    have hrl2 : t.length ≤ (t.drop (a + 1)).length + (a + 1) := by rw [List.length_drop]; omega
                    refine (rdig_any (t.drop (a + 1)) _ (by omega)).mono ?_
                    rintro e w1 ⟨⟨j, hj, hd2, he2, rfl⟩, rfl⟩
                    have HD2 : Hid _ := hd2
                    have HE2 : Hid _ := he2
                    clear hd2 he2
                    by_cases p1 : (((⟨t.toArray⟩ : ByteArray)[a]'hbk2).toNat : Int) = 46
                    · have P46 : Hid (t[a] = 46) := UInt8.toNat_inj.1 (by show t[a].toNat = 46; have : (t[a].toNat : Int) = 46 := p1; omega)
                      by_cases p2 : 1 ≤ j ∧ j ≤ 6 ∧ a + 1 + j = t.length
                      · obtain ⟨q1, q2, q3⟩ := p2
                        have q1' : ¬ (j : Int) < 1 := by omega
                        have q2' : ¬ (6 : Int) < (j : Int) := by omega
                        have q3' : ((a : Int) + 1 + (j : Int) != (t.length : Int)) = false := by rw [bne_eq_false_iff_eq]; omega
                        have HJR : Hid (j = (t.drop (a + 1)).length) := by show j = _; omega
                        have HDR : Hid (dgs (t.drop (a + 1)) = true) := by
                          have := HD2.out
                          rw [HJR.out, List.take_of_length_le (Nat.le_refl _)] at this
                          exact this
                        have Hres : Hid _ := gP_good (m := false) hR HD.out P46.out HG.out (digits_six HDR.out (by omega) (by omega))
                        go_wp2_with fail
                        go_loop [8, 10] (fun f i => ∃ b : Nat, b ≤ 6 ∧ i = .int .i64 b ∧ f = .int .u64 (fr (t.drop (a + 1)) b)) (fun _ i => 6 - (intOf i).toNat)
                        case atStart => exact ⟨0, by omega, rfl, by rw [fr_zero]; rfl⟩
                        case round =>
                          obtain ⟨b, hb6, rfl, rfl⟩ := hrel
                          have hfl := fr_lt HDR.out b
                          by_cases hb : b < 6
                          · have hfl' : fr (t.drop (a + 1)) b < 1000000 := Nat.lt_of_lt_of_le hfl (ten6 hb6)
                            clear hfl
                            by_cases hbj : b < j
                            · have hbr : b < (t.drop (a + 1)).length := by omega
                              have hat2 : a + 1 + b < t.length := by omega
                              have hbk3 := ba_lt hat2
                              obtain ⟨hc1, hc2⟩ := dgs_off HDR.out hbr hat2
                              have HS : Hid _ := fr_in hbr hat2
                              have hbj' : (b : Int) < (j : Int) := by omega
                              generalize fr (t.drop (a + 1)) b = N at *
                              go_wp2_with fail
                              go_round
                              case rel => exact ⟨b + 1, by omega, by go_num, by rw [HS.out]; go_num⟩
                              case measure => simp [intOf]; omega
                            · have HS : Hid _ := fr_out (r := t.drop (a + 1)) (b := b) (by omega)
                              have hbj' : ¬ (b : Int) < (j : Int) := by omega
                              generalize fr (t.drop (a + 1)) b = N at *
                              go_wp2_with fail
                              go_round
                              case rel => exact ⟨b + 1, by omega, by go_num, by rw [HS.out]; go_num⟩
                              case measure => simp [intOf]; omega
                          · obtain rfl : b = 6 := by omega
                            have hfl' : fr (t.drop (a + 1)) 6 < 1000000 := hfl
                            clear hfl
                            have HS : Hid _ := fr_six (r := t.drop (a + 1)) (by omega)
                            generalize rd (t.take a) = r at *
                            generalize fr (t.drop (a + 1)) 6 = N at *
                            have ew : IntKind.u64.wrap ((r : Int) * 1000000) = ((r * 1000000 : Nat) : Int) := by rw [IntKind.wrap_u64]; omega
                            have ew2 : IntKind.u64.wrap (((r * 1000000 : Nat) : Int) + (N : Int)) = ((r * 1000000 + N : Nat) : Int) := by rw [IntKind.wrap_u64]; omega
                            have ew3 : IntKind.u64.wrap ((r : Int) * 1000000 + (N : Int)) = ((r * 1000000 + N : Nat) : Int) := by rw [IntKind.wrap_u64]; omega
                            have hs52 := fun W => rsigned_any false (r * 1000000 + N) W (by omega)
                            generalize hNN : r * 1000000 + N = M at *
                            have HNN : Hid _ := hNN
                            clear hNN
                            go_wp2_with fail
                            refine (hs52 _).mono ?_
                            rintro e w2 ⟨rfl, hb2⟩
                            obtain ⟨c0, c1, f0, f1⟩ := hx.later hb2
                            go_wp2
                            exact bodyPost_ret (v := .tuple #[.agg #[.bool (ov (sgn false M)), .int .i64 (nn (sgn false M))], .bool true]) (by simp [results, Tryz.results55, go_sem, c0, c1]) rfl ⟨by rw [Hres.out, ← HS.out, HNN.out]; rfl, put2 (Below.chain hb0 hb2) (by omega) _ _⟩
                      · have hfd : fDigits (t.drop (a + 1)) 6 = false := no_digits HE2.out (by omega)
                        have hno : gP false t = none := gP_bad hR HD.out P46.out hfd
                        have HN : Hid _ := hno
                        clear hno
                        obtain ⟨c0, c1, f0, f1⟩ := id hx
                        by_cases q1 : 1 ≤ j
                        · have q1' : ¬ (j : Int) < 1 := by omega
                          by_cases q2 : j ≤ 6
                          · have q2' : ¬ (6 : Int) < (j : Int) := by omega
                            have q3' : ((a : Int) + 1 + (j : Int) != (t.length : Int)) = true := by rw [bne_iff_ne]; omega
                            go_wp2_with fail
                            exact bodyPost_ret (v := .tuple #[.agg #[.bool false, .int .i64 0], .bool false]) (by simp [results, Tryz.results55, go_sem, c0, c1]) rfl ⟨by rw [HN.out]; rfl, hb0⟩
                          · have q2' : (6 : Int) < (j : Int) := by omega
                            go_wp2_with fail
                            exact bodyPost_ret (v := .tuple #[.agg #[.bool false, .int .i64 0], .bool false]) (by simp [results, Tryz.results55, go_sem, c0, c1]) rfl ⟨by rw [HN.out]; rfl, hb0⟩
                        · have q1' : (j : Int) < 1 := by omega
                          go_wp2_with fail
                          exact bodyPost_ret (v := .tuple #[.agg #[.bool false, .int .i64 0], .bool false]) (by simp [results, Tryz.results55, go_sem, c0, c1]) rfl ⟨by rw [HN.out]; rfl, hb0⟩
                    · have hno : gP false t = none := gP_char hR HD.out (by rcases HE.out with h | ⟨h, h'⟩; (omega); exact h') (fun h => p1 (by show ((t[a].toNat : Nat) : Int) = 46; rw [h]; rfl))
                      have HN : Hid _ := hno
                      clear hno
                      have p1' : ((((⟨t.toArray⟩ : ByteArray)[a]'hbk2).toNat : Int) == 46) = false := beq_eq_false_iff_ne.2 p1
                      obtain ⟨c0, c1, f0, f1⟩ := id hx
                      go_wp2_with fail
                      exact bodyPost_ret (v := .tuple #[.agg #[.bool false, .int .i64 0], .bool false]) (by simp [results, Tryz.results55, go_sem, c0, c1]) rfl ⟨by rw [HN.out]; rfl, hb0⟩
                  · have hR' : ¬ (a : Int) < (t.length : Int) := by omega
                    have E0 : Hid (a = t.length) := by show a = t.length; omega
                    have hall : Hid _ := gP_all (m := false) (t := t) (by have := HD.out; rw [E0.out, List.take_of_length_le (Nat.le_refl _)] at this; exact this) (by rw [← E0.out]; exact HG.out)
                    have e1 : rd (t.take a) = rd t := by rw [List.take_of_length_le (by omega)]
                    rw [e1] at hr
                    rw [e1]
                    clear e1
                    generalize rd t = r at *
                    have ew : IntKind.u64.wrap ((r : Int) * 1000000) = ((r * 1000000 : Nat) : Int) := by rw [IntKind.wrap_u64]; omega
                    have ew2 : IntKind.u64.wrap ((r * 1000000 : Nat) : Int) = ((r * 1000000 : Nat) : Int) := by rw [IntKind.wrap_u64]; omega
                    have hs52 := fun W => rsigned_any false (r * 1000000) W (by omega)
                    generalize r * 1000000 = N at *
                    go_wp2_with fail
                    refine (hs52 _).mono ?_
                    rintro e w2 ⟨rfl, hb2⟩
                    obtain ⟨c0, c1, f0, f1⟩ := hx.later hb2
                    go_wp2
                    exact bodyPost_ret (v := .tuple #[.agg #[.bool (ov (sgn false N)), .int .i64 (nn (sgn false N))], .bool true]) (by simp [results, Tryz.results55, go_sem, c0, c1]) rfl ⟨by rw [hall.out]; rfl, put2 (Below.chain hb0 hb2) (by omega) _ _⟩
            · have g3' : (1 : Int) < (k : Int) := by omega
              have ht0 : 0 < t.length := by omega
              have hbt := ba_lt ht0
              by_cases g4 : (((⟨t.toArray⟩ : ByteArray)[0]'hbt).toNat : Int) = 48
              · have hno : gP false t = none := gP_no hk HD.out HE.out (fun h => by
                  rcases h.2.2 with h | h
                  · omega
                  · exact h (head_is ht0 g4))
                have HN : Hid _ := hno
                clear hno
                obtain ⟨c0, c1, f0, f1⟩ := id hx
                go_wp2_with fail
                exact bodyPost_ret (v := .tuple #[.agg #[.bool false, .int .i64 0], .bool false]) (by simp [results, Tryz.results55, go_sem, c0, c1]) rfl ⟨by rw [HN.out]; rfl, hb0⟩
              · have HG : Hid (good k t) := ⟨g1, g2, Or.inr (head_isnt ht0 g4)⟩
                have g4' : ((((⟨t.toArray⟩ : ByteArray)[0]'hbt).toNat : Int) == 48) = false := beq_eq_false_iff_ne.2 g4
                go_wp2_with fail
                go_loop [6, 7] (fun n i => ∃ a : Nat, a ≤ k ∧ i = .int .i64 a ∧ n = .int .u64 (rd (t.take a))) (fun _ i => k - (intOf i).toNat)
                case atStart => exact ⟨0, by omega, rfl, rfl⟩
                case round =>
                  obtain ⟨a, hak, rfl, rfl⟩ := hrel
                  by_cases hlt1 : a < k
                  · have hat : a < t.length := by omega
                    have hbk1 := ba_lt hat
                    obtain ⟨hc1, hc2⟩ := dgs_at hk HD.out hlt1
                    have hr0 := rd_bound hk HD.out hak
                    have hr : rd (t.take a) < 10000000000000 := by have := ten13 (show a ≤ 13 by omega); omega
                    have HS : Hid _ := rd_next hat
                    clear hr0
                    generalize rd (t.take a) = r at *
                    go_wp2_with fail
                    go_round
                    case rel => exact ⟨a + 1, by omega, by go_num, by rw [HS.out]; go_num⟩
                    case measure => simp [intOf]; omega
                  · obtain rfl : a = k := by omega
                    have hr0 := rd_bound hk HD.out hak
                    have hr : rd (t.take a) < 10000000000000 := by have := ten13 (show a ≤ 13 by omega); omega
                    clear hr0
                    by_cases hR : a < t.length
                    · have hR' : (a : Int) < (t.length : Int) := by omega
                      have hbk2 := ba_lt hR
                      have td := ba_drop t (a + 1)
                      go_wp2_with fail
                      clear td
                      have hrl1 : (t.drop (a + 1)).length + (a + 1) ≤ t.length := by rw [List.length_drop]; omega
                      have hrl2 : t.length ≤ (t.drop (a + 1)).length + (a + 1) := by rw [List.length_drop]; omega
                      refine (rdig_any (t.drop (a + 1)) _ (by omega)).mono ?_
                      rintro e w1 ⟨⟨j, hj, hd2, he2, rfl⟩, rfl⟩
                      have HD2 : Hid _ := hd2
                      have HE2 : Hid _ := he2
                      clear hd2 he2
                      by_cases p1 : (((⟨t.toArray⟩ : ByteArray)[a]'hbk2).toNat : Int) = 46
                      · have P46 : Hid (t[a] = 46) := UInt8.toNat_inj.1 (by show t[a].toNat = 46; have : (t[a].toNat : Int) = 46 := p1; omega)
                        by_cases p2 : 1 ≤ j ∧ j ≤ 6 ∧ a + 1 + j = t.length
                        · obtain ⟨q1, q2, q3⟩ := p2
                          have q1' : ¬ (j : Int) < 1 := by omega
                          have q2' : ¬ (6 : Int) < (j : Int) := by omega
                          have q3' : ((a : Int) + 1 + (j : Int) != (t.length : Int)) = false := by rw [bne_eq_false_iff_eq]; omega
                          have HJR : Hid (j = (t.drop (a + 1)).length) := by show j = _; omega
                          have HDR : Hid (dgs (t.drop (a + 1)) = true) := by
                            have := HD2.out
                            rw [HJR.out, List.take_of_length_le (Nat.le_refl _)] at this
                            exact this
                          have Hres : Hid _ := gP_good (m := false) hR HD.out P46.out HG.out (digits_six HDR.out (by omega) (by omega))
                          go_wp2_with fail
                          go_loop [8, 10] (fun f i => ∃ b : Nat, b ≤ 6 ∧ i = .int .i64 b ∧ f = .int .u64 (fr (t.drop (a + 1)) b)) (fun _ i => 6 - (intOf i).toNat)
                          case atStart => exact ⟨0, by omega, rfl, by rw [fr_zero]; rfl⟩
                          case round =>
                            obtain ⟨b, hb6, rfl, rfl⟩ := hrel
                            have hfl := fr_lt HDR.out b
                            by_cases hb : b < 6
                            · have hfl' : fr (t.drop (a + 1)) b < 1000000 := Nat.lt_of_lt_of_le hfl (ten6 hb6)
                              clear hfl
                              by_cases hbj : b < j
                              · have hbr : b < (t.drop (a + 1)).length := by omega
                                have hat2 : a + 1 + b < t.length := by omega
                                have hbk3 := ba_lt hat2
                                obtain ⟨hc1, hc2⟩ := dgs_off HDR.out hbr hat2
                                have HS : Hid _ := fr_in hbr hat2
                                have hbj' : (b : Int) < (j : Int) := by omega
                                generalize fr (t.drop (a + 1)) b = N at *
                                go_wp2_with fail
                                go_round
                                case rel => exact ⟨b + 1, by omega, by go_num, by rw [HS.out]; go_num⟩
                                case measure => simp [intOf]; omega
                              · have HS : Hid _ := fr_out (r := t.drop (a + 1)) (b := b) (by omega)
                                have hbj' : ¬ (b : Int) < (j : Int) := by omega
                                generalize fr (t.drop (a + 1)) b = N at *
                                go_wp2_with fail
                                go_round
                                case rel => exact ⟨b + 1, by omega, by go_num, by rw [HS.out]; go_num⟩
                                case measure => simp [intOf]; omega
                            · obtain rfl : b = 6 := by omega
                              have hfl' : fr (t.drop (a + 1)) 6 < 1000000 := hfl
                              clear hfl
                              have HS : Hid _ := fr_six (r := t.drop (a + 1)) (by omega)
                              generalize rd (t.take a) = r at *
                              generalize fr (t.drop (a + 1)) 6 = N at *
                              have ew : IntKind.u64.wrap ((r : Int) * 1000000) = ((r * 1000000 : Nat) : Int) := by rw [IntKind.wrap_u64]; omega
                              have ew2 : IntKind.u64.wrap (((r * 1000000 : Nat) : Int) + (N : Int)) = ((r * 1000000 + N : Nat) : Int) := by rw [IntKind.wrap_u64]; omega
                              have ew3 : IntKind.u64.wrap ((r : Int) * 1000000 + (N : Int)) = ((r * 1000000 + N : Nat) : Int) := by rw [IntKind.wrap_u64]; omega
                              have hs52 := fun W => rsigned_any false (r * 1000000 + N) W (by omega)
                              generalize hNN : r * 1000000 + N = M at *
                              have HNN : Hid _ := hNN
                              clear hNN
                              go_wp2_with fail
                              refine (hs52 _).mono ?_
                              rintro e w2 ⟨rfl, hb2⟩
                              obtain ⟨c0, c1, f0, f1⟩ := hx.later hb2
                              go_wp2
                              exact bodyPost_ret (v := .tuple #[.agg #[.bool (ov (sgn false M)), .int .i64 (nn (sgn false M))], .bool true]) (by simp [results, Tryz.results55, go_sem, c0, c1]) rfl ⟨by rw [Hres.out, ← HS.out, HNN.out]; rfl, put2 (Below.chain hb0 hb2) (by omega) _ _⟩
                        · have hfd : fDigits (t.drop (a + 1)) 6 = false := no_digits HE2.out (by omega)
                          have hno : gP false t = none := gP_bad hR HD.out P46.out hfd
                          have HN : Hid _ := hno
                          clear hno
                          obtain ⟨c0, c1, f0, f1⟩ := id hx
                          by_cases q1 : 1 ≤ j
                          · have q1' : ¬ (j : Int) < 1 := by omega
                            by_cases q2 : j ≤ 6
                            · have q2' : ¬ (6 : Int) < (j : Int) := by omega
                              have q3' : ((a : Int) + 1 + (j : Int) != (t.length : Int)) = true := by rw [bne_iff_ne]; omega
                              go_wp2_with fail
                              exact bodyPost_ret (v := .tuple #[.agg #[.bool false, .int .i64 0], .bool false]) (by simp [results, Tryz.results55, go_sem, c0, c1]) rfl ⟨by rw [HN.out]; rfl, hb0⟩
                            · have q2' : (6 : Int) < (j : Int) := by omega
                              go_wp2_with fail
                              exact bodyPost_ret (v := .tuple #[.agg #[.bool false, .int .i64 0], .bool false]) (by simp [results, Tryz.results55, go_sem, c0, c1]) rfl ⟨by rw [HN.out]; rfl, hb0⟩
                          · have q1' : (j : Int) < 1 := by omega
                            go_wp2_with fail
                            exact bodyPost_ret (v := .tuple #[.agg #[.bool false, .int .i64 0], .bool false]) (by simp [results, Tryz.results55, go_sem, c0, c1]) rfl ⟨by rw [HN.out]; rfl, hb0⟩
                      · have hno : gP false t = none := gP_char hR HD.out (by rcases HE.out with h | ⟨h, h'⟩; (omega); exact h') (fun h => p1 (by show ((t[a].toNat : Nat) : Int) = 46; rw [h]; rfl))
                        have HN : Hid _ := hno
                        clear hno
                        have p1' : ((((⟨t.toArray⟩ : ByteArray)[a]'hbk2).toNat : Int) == 46) = false := beq_eq_false_iff_ne.2 p1
                        obtain ⟨c0, c1, f0, f1⟩ := id hx
                        go_wp2_with fail
                        exact bodyPost_ret (v := .tuple #[.agg #[.bool false, .int .i64 0], .bool false]) (by simp [results, Tryz.results55, go_sem, c0, c1]) rfl ⟨by rw [HN.out]; rfl, hb0⟩
                    · have hR' : ¬ (a : Int) < (t.length : Int) := by omega
                      have E0 : Hid (a = t.length) := by show a = t.length; omega
                      have hall : Hid _ := gP_all (m := false) (t := t) (by have := HD.out; rw [E0.out, List.take_of_length_le (Nat.le_refl _)] at this; exact this) (by rw [← E0.out]; exact HG.out)
                      have e1 : rd (t.take a) = rd t := by rw [List.take_of_length_le (by omega)]
                      rw [e1] at hr
                      rw [e1]
                      clear e1
                      generalize rd t = r at *
                      have ew : IntKind.u64.wrap ((r : Int) * 1000000) = ((r * 1000000 : Nat) : Int) := by rw [IntKind.wrap_u64]; omega
                      have ew2 : IntKind.u64.wrap ((r * 1000000 : Nat) : Int) = ((r * 1000000 : Nat) : Int) := by rw [IntKind.wrap_u64]; omega
                      have hs52 := fun W => rsigned_any false (r * 1000000) W (by omega)
                      generalize r * 1000000 = N at *
                      go_wp2_with fail
                      refine (hs52 _).mono ?_
                      rintro e w2 ⟨rfl, hb2⟩
                      obtain ⟨c0, c1, f0, f1⟩ := hx.later hb2
                      go_wp2
                      exact bodyPost_ret (v := .tuple #[.agg #[.bool (ov (sgn false N)), .int .i64 (nn (sgn false N))], .bool true]) (by simp [results, Tryz.results55, go_sem, c0, c1]) rfl ⟨by rw [hall.out]; rfl, put2 (Below.chain hb0 hb2) (by omega) _ _⟩
          · have g1' : ¬ (k : Int) < 1 := by omega
            have g2' : (13 : Int) < (k : Int) := by omega
            have hno : gP false t = none := gP_no hk HD.out HE.out (fun h => g2 h.2.1)
            have HN : Hid _ := hno
            clear hno
            obtain ⟨c0, c1, f0, f1⟩ := id hx
            go_wp2_with fail
            exact bodyPost_ret (v := .tuple #[.agg #[.bool false, .int .i64 0], .bool false]) (by simp [results, Tryz.results55, go_sem, c0, c1]) rfl ⟨by rw [HN.out]; rfl, hb0⟩
        · have g1' : (k : Int) < 1 := by omega
          have hno : gP false t = none := gP_no hk HD.out HE.out (fun h => g1 h.1)
          have HN : Hid _ := hno
          clear hno
          obtain ⟨c0, c1, f0, f1⟩ := id hx
          go_wp2_with fail
          exact bodyPost_ret (v := .tuple #[.agg #[.bool false, .int .i64 0], .bool false]) (by simp [results, Tryz.results55, go_sem, c0, c1]) rfl ⟨by rw [HN.out]; rfl, hb0⟩
    · obtain rfl : l = [] := List.eq_nil_of_length_eq_zero (by omega)
      rw [minus_nil.1, minus_nil.2]
      have hno : gP false [] = none := rfl
      have HN : Hid _ := hno
      clear hno
      obtain ⟨c0, c1, f0, f1⟩ := id hx
      go_enter Tryz.func55, Tryz.ntmps55
      go_wp2_with fail
      refine (rdig_any [] _ (by decide)).mono ?_
      rintro e w1 ⟨⟨k, hk, hd, he, rfl⟩, rfl⟩
      obtain rfl : k = 0 := Nat.le_zero.1 hk
      clear hd he
      go_wp2_with fail
      exact bodyPost_ret (v := .tuple #[.agg #[.bool false, .int .i64 0], .bool false]) (by simp [results, Tryz.results55, go_sem, c0, c1]) rfl ⟨by rw [HN.out]; rfl, hb0⟩
end Go.Proofs.YtajbjbnfklllkaaGreatDoor.Fx
/- The document's own Is: for every argument. -/
namespace Go.Proofs.YtajbjbnfklllkaaGreatDoor.Fx
open Go.RowKit

theorem rIs_eqs {o : Bool} {n : Int} (h0 : -9223372036854775808 ≤ n) : fIs o n = if o = true then decide (n = 0) else decide (¬ n = -9223372036854775808) := by
  unfold fIs
  cases o with
  | true => rfl
  | false =>
    show decide (-9223372036854775807 ≤ n) = decide (¬ n = -9223372036854775808)
    by_cases h : n = -9223372036854775808
    · rw [decide_eq_false (by omega), decide_eq_false (by omega)]
    · rw [decide_eq_true (by omega), decide_eq_true h]

set_option maxHeartbeats 1000000 in
theorem ris_all (o : Bool) (n : Int) (w : World) (h0 : -9223372036854775808 ≤ n) : Calls Tryz.prog 42 #[.agg #[.bool o, .int .i64 n]] w fun e w' => e = .returned (.bool (fIs o n)) ∧ Below w.heap.size w w' := by
  have hb0 : Below w.heap.size w (w.alloc (.cells #[.bool o, .int .i64 n] 34)) := bal (Below.refl _ _) _
  rw [rIs_eqs h0]
  cases o with
  | true =>
    by_cases h : n = 0
    · subst h
      go_enter Tryz.func42, Tryz.ntmps42
      go_wp2
      go_ret
      exact ⟨rfl, hb0⟩
    · have H : Hid (¬ n = 0) := h
      go_enter Tryz.func42, Tryz.ntmps42
      go_wp2
      go_ret
      exact ⟨by simp [H.out], hb0⟩
  | false =>
    by_cases h : n = -9223372036854775808
    · subst h
      go_enter Tryz.func42, Tryz.ntmps42
      go_wp2
      go_ret
      exact ⟨rfl, hb0⟩
    · go_enter Tryz.func42, Tryz.ntmps42
      go_wp2
      go_ret
      exact ⟨by simp, hb0⟩

/-- What counts: overflow, or a number. -/
theorem cnt_ways {o : Bool} {n : Int} (h0 : -9223372036854775808 ≤ n) : (o = true ∧ cnt o n = none) ∨ (o = false ∧ fIs o n = false ∧ cnt o n = none) ∨ (o = false ∧ fIs o n = true ∧ cnt o n = some n) := by
  cases o with
  | true => exact Or.inl ⟨rfl, by simp [cnt]⟩
  | false =>
    cases h : fIs false n with
    | false => exact Or.inr (Or.inl ⟨rfl, rfl, isnt_cnt h0 h⟩)
    | true =>
      refine Or.inr (Or.inr ⟨rfl, rfl, ?_⟩)
      have hh : -9223372036854775807 ≤ n := by simpa [fIs] using h
      unfold cnt
      rw [if_neg (by intro e; rcases e with e | e; cases e; omega)]

end Go.Proofs.YtajbjbnfklllkaaGreatDoor.Fx
