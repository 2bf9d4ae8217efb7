/- Texts that the others lean on. -/
import Derived.Test.YtjgckfcocmhnhaaGreatDoorProg
import Derived.WalkKit
import Derived.WalkSpells
import Derived.WalkLawsBesides
import Derived.Deep.RegionHeld3
import Derived.Laws.Externs
namespace Go.Proofs.YtjgckfcocmhnhaaGreatDoor
def top : Int := 9223372036854775807
/-- What a pair counts as: a number of millionths, or none: overflow. -/
def cnt (o : Bool) (n : Int) : Option Int := if o = true ∨ n = -9223372036854775808 then none else some n
def ov : Option Int → Bool
 | none => true
 | some _ => false
def nn : Option Int → Int
 | none => 0
 | some n => n
/-- A number within the range, or overflow. -/
def V (r : Option Int) : Prop := -9223372036854775807 ≤ nn r ∧ nn r ≤ 9223372036854775807
/-- What lies in the range. -/
def norm (x : Int) : Option Int := if -9223372036854775807 ≤ x ∧ x ≤ 9223372036854775807 then some x else none
def fIs (o : Bool) (n : Int) : Bool := if o = true then decide (n = 0) else decide (-9223372036854775807 ≤ n)
def fAdd : Option Int → Option Int → Option Int
 | some a, some b => norm (a + b)
 | _, _ => none
def fMul : Option Int → Option Int → Option Int
 | some a, some b => norm ((a * b).tdiv 1000000)
 | _, _ => none
def fDiv : Option Int → Option Int → Option Int
 | some a, some b => if b = 0 then none else norm ((a * 1000000).tdiv b)
 | _, _ => none
def fNeg : Option Int → Option Int
 | some a => some (-a)
 | none => none
def fCmp : Option Int → Option Int → Int
 | some a, some b => if a = b then 0 else if b < a then 1 else -1
 | none, some _ => 1
 | some _, none => -1
 | none, none => 0
def oadd : Option Int → Option Int → Option Int
 | some a, some b => some (a + b)
 | _, _ => none
def sumL : List (Option Int) → Option Int
 | [] => some 0
 | x :: r => oadd x (sumL r)
def fSum (l : List (Option Int)) : Option Int := match sumL l with
 | some a => norm a
 | none => none
theorem V.none : V none := ⟨by decide, by decide⟩
theorem V.norm (x : Int) : V (norm x) := by
 unfold YtjgckfcocmhnhaaGreatDoor.norm
 split
 ·
  assumption
 ·
  exact V.none
theorem V.cnt {o : Bool} {n : Int} (h0 : -9223372036854775808 ≤ n) (h1 : n ≤ 9223372036854775807) : V (cnt o n) := by
 unfold YtjgckfcocmhnhaaGreatDoor.cnt
 split
 ·
  exact V.none
 ·
  rename_i h
  have : ¬ n = -9223372036854775808 := fun e => h (Or.inr e)
  exact ⟨by show _ ≤ n; omega, h1⟩
theorem cnt_val {r : Option Int} (h : V r) : cnt (ov r) (nn r) = r := by
 cases r with
 | none => rfl
 | some n =>
  have h1 : -9223372036854775807 ≤ n := h.1
  unfold cnt
  rw [if_neg]
  ·
   rfl
  ·
   intro e
   rcases e with e | e
   ·
    cases e
   ·
    have : n = -9223372036854775808 := e
    omega
theorem V.add (x y : Option Int) : V (fAdd x y) := by
 cases x <;> cases y <;> first | exact V.none | exact V.norm _
theorem V.neg {x : Option Int} (h : V x) : V (fNeg x) := by
 cases x with
 | none => exact V.none
 | some n =>
  have h1 : -9223372036854775807 ≤ n := h.1
  have h2 : n ≤ 9223372036854775807 := h.2
  exact ⟨by show _ ≤ -n; omega, by show -n ≤ _; omega⟩
theorem V.sum (l : List (Option Int)) : V (fSum l) := by
 unfold fSum
 split
 ·
  exact V.norm _
 ·
  exact V.none
theorem fSum_two (x y : Option Int) : fSum [x, y] = fAdd x y := by
 cases x <;> cases y <;> simp [fSum, sumL, oadd, fAdd]
def cnts (l : List (Bool × Int)) : List (Option Int) := l.map fun x => cnt x.1 x.2
theorem oadd_assoc (a b c : Option Int) : oadd (oadd a b) c = oadd a (oadd b c) := by
 cases a <;> cases b <;> cases c <;> simp [oadd]
 omega
theorem oadd_none (a : Option Int) : oadd a none = none := by cases a <;> rfl
theorem sumL_append (x y : List (Option Int)) : sumL (x ++ y) = oadd (sumL x) (sumL y) := by
 induction x with
 | nil => cases h : sumL y <;> simp [sumL, oadd]; exact h; exact h
 | cons c x ih => rw [List.cons_append, sumL, ih, sumL, oadd_assoc]
theorem take_snoc {l : List (Bool × Int)} {j : Nat} (h : j < l.length) : l.take (j + 1) = l.take j ++ [l.getD j (false, 0)] := by
 rw [List.take_add_one, List.getD_eq_getElem?_getD, List.getElem?_eq_getElem h]
 rfl
theorem sumL_snoc {l : List (Bool × Int)} {j : Nat} {s a : Int} (h : j < l.length) (hs : sumL (cnts (l.take j)) = some s) (ha : cnt (l.getD j (false, 0)).1 (l.getD j (false, 0)).2 = some a) : sumL (cnts (l.take (j + 1))) = some (s + a) := by
 rw [take_snoc h]
 unfold cnts at *
 rw [List.map_append, sumL_append, hs, List.map_cons, ha]
 simp [sumL, oadd]
theorem sumL_none {l : List (Bool × Int)} {j : Nat} (h : j < l.length) (ha : cnt (l.getD j (false, 0)).1 (l.getD j (false, 0)).2 = none) : sumL (cnts l) = none := by
 have e : l = l.take j ++ ([l.getD j (false, 0)] ++ l.drop (j + 1)) := by rw [← List.append_assoc, ← take_snoc h, List.take_append_drop]
 rw [e]
 unfold cnts
 rw [List.map_append, List.map_append, sumL_append, sumL_append, List.map_cons, ha]
 exact oadd_none _
theorem sumL_range : ∀ (l : List (Bool × Int)), (∀ x ∈ l, -9223372036854775808 ≤ x.2 ∧ x.2 ≤ 9223372036854775807) → ∀ s, sumL (cnts l) = some s → -(l.length * 9223372036854775808 : Int) ≤ s ∧ s ≤ l.length * 9223372036854775808
 | [], _, s, h => by cases h; simp
 | x :: l, hl, s, h => by
  have ih := sumL_range l fun y hy => hl y (List.mem_cons_of_mem _ hy)
  have hx := hl x List.mem_cons_self
  have hv : V (cnt x.1 x.2) := V.cnt hx.1 hx.2
  show _ ∧ _
  unfold cnts at h ih
  rw [List.map_cons, sumL] at h
  cases hc : cnt x.1 x.2 with
  | none => rw [hc] at h; cases h
  | some a =>
   rw [hc] at h hv
   have h1 : -9223372036854775807 ≤ a := hv.1
   have h2 : a ≤ 9223372036854775807 := hv.2
   cases ht : sumL (List.map (fun x => cnt x.1 x.2) l) with
   | none => rw [ht] at h; cases h
   | some b =>
    rw [ht] at h
    have e : a + b = s := by cases h; rfl
    have := ih b ht
    rw [List.length_cons]
    omega
theorem cnt_norm {s : Int} (h0 : -9223372036854775808 ≤ s) (h1 : s ≤ 9223372036854775807) : cnt false s = norm s := by
 unfold cnt norm
 by_cases h : s = -9223372036854775808
 ·
  rw [if_pos (Or.inr h), if_neg (by omega)]
 ·
  rw [if_neg (by intro e; rcases e with e | e; cases e; exact h e), if_pos (by omega)]
theorem norm_out {s : Int} (h : s < -9223372036854775808 ∨ 9223372036854775807 < s) : norm s = none := by
 unfold norm
 rw [if_neg (by omega)]
/-- A whole number held in twice 64 bits. -/
def lo (s : Int) : Int := s % 18446744073709551616
def hi (s : Int) : Int := s / 18446744073709551616 % 18446744073709551616
def sb (a : Int) : Int := if a < 0 then 18446744073709551615 else 0
def cy (s a : Int) : Int := (lo s + a % 18446744073709551616) / 18446744073709551616
theorem lo_range (s : Int) : 0 ≤ lo s ∧ lo s < 18446744073709551616 := by unfold lo; omega
theorem hi_range (s : Int) : 0 ≤ hi s ∧ hi s < 18446744073709551616 := by unfold hi; omega
theorem sb_range (a : Int) : 0 ≤ sb a ∧ sb a < 18446744073709551616 := by unfold sb; split <;> omega
theorem cy_range (s a : Int) : 0 ≤ cy s a ∧ cy s a ≤ 1 := by unfold cy lo; omega
theorem lo_add (s a : Int) : (lo s + a % 18446744073709551616) % 18446744073709551616 = lo (s + a) := by unfold lo; omega
theorem hi_add (s a : Int) (h0 : -9223372036854775808 ≤ a) (h1 : a ≤ 9223372036854775807) : (hi s + sb a + cy s a) % 18446744073709551616 = hi (s + a) := by
 unfold hi sb cy lo
 by_cases h : a < 0
 ·
  rw [if_pos h]
  have e : a % 18446744073709551616 = a + 18446744073709551616 := by omega
  rw [e]
  have e2 : (s + a) / 18446744073709551616 = s / 18446744073709551616 + (s % 18446744073709551616 + a) / 18446744073709551616 := by omega
  rw [e2]
  have e3 : (s % 18446744073709551616 + (a + 18446744073709551616)) / 18446744073709551616 = (s % 18446744073709551616 + a) / 18446744073709551616 + 1 := by omega
  rw [e3]
  generalize s / 18446744073709551616 = q
  generalize (s % 18446744073709551616 + a) / 18446744073709551616 = r
  omega
 ·
  rw [if_neg h]
  have e : a % 18446744073709551616 = a := by omega
  rw [e]
  have e2 : (s + a) / 18446744073709551616 = s / 18446744073709551616 + (s % 18446744073709551616 + a) / 18446744073709551616 := by omega
  rw [e2]
  generalize s / 18446744073709551616 = q
  generalize (s % 18446744073709551616 + a) / 18446744073709551616 = r
  omega
/-- Whether what is held in twice 64 bits fits into 64. -/
theorem hi_fits (s : Int) (h0 : -1000000 * 9223372036854775808 ≤ s) (h1 : s ≤ 1000000 * 9223372036854775808) (n : Int) (hn : n = (if lo s < 9223372036854775808 then lo s else lo s - 18446744073709551616)) :
  (hi s = sb n ∧ n = s ∧ -9223372036854775808 ≤ s ∧ s ≤ 9223372036854775807) ∨ (hi s ≠ sb n ∧ (s < -9223372036854775808 ∨ 9223372036854775807 < s)) := by
 unfold hi sb lo at *
 by_cases h : s % 18446744073709551616 < 9223372036854775808
 ·
  rw [if_pos h] at hn
  have hn0 : ¬ n < 0 := by omega
  rw [if_neg hn0]
  by_cases e : s / 18446744073709551616 = 0
  ·
   left; omega
  ·
   right; omega
 ·
  rw [if_neg h] at hn
  have hn0 : n < 0 := by omega
  rw [if_pos hn0]
  by_cases e : s / 18446744073709551616 = -1
  ·
   left; omega
  ·
   right; omega
end Go.Proofs.YtjgckfcocmhnhaaGreatDoor
namespace Go.Proofs.YtjgckfcocmhnhaaGreatDoor
open Go.RowKit
theorem ret_int {k : IntKind} {a b : Int} (h : a = b) : Ending.returned (.int k a) = .returned (.int k b) := by rw [h]
theorem Below.chain {a b c : World} (h : Below a.heap.size a b) (k : Below b.heap.size b c) : Below a.heap.size a c := h.trans (k.mono h.size)
theorem bal {a w : World} (h : Below a.heap.size a w) (o : Obj) : Below a.heap.size a (w.alloc o) := h.alloc h.size o
/-- A number that lies in a block of its own. -/
structure Box (w : World) (b : Nat) (o : Bool) (n : Int) : Prop where
 c0 : w.cell? ⟨b, 0, none⟩ = some (.bool o)
 c1 : w.cell? ⟨b, 1, none⟩ = some (.int .i64 n)
 f0 : w.frozen? ⟨b, 0, none⟩ = false
 f1 : w.frozen? ⟨b, 1, none⟩ = false
theorem Box.new (w : World) (o : Bool) (n : Int) : Box (w.alloc (.cells #[.bool o, .int .i64 n] 33)) w.heap.size o n := by
 constructor <;> simp [go_sem]
theorem Box.later {w w' : World} {b : Nat} {o : Bool} {n : Int} (h : Box w b o n) (hb : Below w.heap.size w w') : Box w' b o n := by
 have hl : b < w.heap.size := World.block_lt_of_cell? _ _ h.c0
 exact ⟨(hb.cell (p := ⟨b, 0, none⟩) hl).trans h.c0, (hb.cell (p := ⟨b, 1, none⟩) hl).trans h.c1, (hb.frozen (p := ⟨b, 0, none⟩) hl).trans h.f0, (hb.frozen (p := ⟨b, 1, none⟩) hl).trans h.f1⟩
theorem overflow_any (w : World) : Calls Tryz.prog 57 #[] w fun e w' => e = .returned (.agg #[.bool true, .int .i64 0]) ∧ Below w.heap.size w w' := by
 go_enter Tryz.func57, Tryz.ntmps57
 go_wp2
 exact bodyPost_ret (v := .agg #[.bool true, .int .i64 0]) (by simp [results, Tryz.results57, go_sem]) rfl ⟨rfl, bal (Below.refl _ _) _⟩
theorem ovf_any (w : World) : Calls Tryz.prog 76 #[] w fun e w' => e = .returned (.agg #[.bool true, .int .i64 0]) ∧ Below w.heap.size w w' := by
 go_enter Tryz.func76, Tryz.ntmps76
 go_wp2
 exact bodyPost_ret (v := .agg #[.bool true, .int .i64 0]) (by simp [results, Tryz.results76, go_sem]) rfl ⟨rfl, bal (Below.refl _ _) _⟩
theorem mag_any (n : Int) (w : World) (h0 : -9223372036854775808 ≤ n) (h1 : n ≤ 9223372036854775807) : Calls Tryz.prog 53 #[.int .i64 n] w fun e w' => e = .returned (.int .u64 (n.natAbs : Nat)) ∧ w = w' := by
 by_cases h : n < 0
 ·
  go_enter Tryz.func53, Tryz.ntmps53
  go_wp2
  go_ret
  exact ⟨ret_int (by rw [IntKind.wrap_u64, IntKind.wrap_u64]; omega), rfl⟩
 ·
  go_enter Tryz.func53, Tryz.ntmps53
  go_wp2
  go_ret
  exact ⟨ret_int (by omega), rfl⟩
theorem size_any (n : Int) (w : World) (h0 : -9223372036854775808 ≤ n) (h1 : n ≤ 9223372036854775807) : Calls Tryz.prog 111 #[.int .i64 n] w fun e w' => e = .returned (.int .u64 (n.natAbs : Nat)) ∧ w = w' := by
 by_cases h : n < 0
 ·
  go_enter Tryz.func111, Tryz.ntmps111
  go_wp2
  go_ret
  exact ⟨ret_int (by rw [IntKind.wrap_u64]; unfold wrap64; omega), rfl⟩
 ·
  go_enter Tryz.func111, Tryz.ntmps111
  go_wp2
  go_ret
  exact ⟨ret_int (by omega), rfl⟩
theorem signBits_any (n : Int) (w : World) : Calls Tryz.prog 132 #[.int .i64 n] w fun e w' => e = .returned (.int .u64 (if n < 0 then 18446744073709551615 else 0)) ∧ w = w' := by
 by_cases h : n < 0
 ·
  go_enter Tryz.func132, Tryz.ntmps132
  go_wp2
  go_ret
  exact ⟨rfl, rfl⟩
 ·
  go_enter Tryz.func132, Tryz.ntmps132
  go_wp2
  go_ret
  exact ⟨rfl, rfl⟩
/-- A size with a sign. -/
def sgn (minus : Bool) (m : Nat) : Option Int := if 9223372036854775807 < m then none else some (if minus then -(m : Int) else m)
theorem signed_any (b : Bool) (m : Nat) (w : World) (hm : m < 18446744073709551616) : Calls Tryz.prog 89 #[.bool b, .int .u64 m] w fun e w' => e = .returned (.agg #[.bool (ov (sgn b m)), .int .i64 (nn (sgn b m))]) ∧ Below w.heap.size w w' := by
 unfold sgn
 by_cases h : 9223372036854775807 < m
 ·
  have hd : (9223372036854775807 : Int) < m := by omega
  rw [if_pos h]
  go_enter Tryz.func89, Tryz.ntmps89
  go_wp2_with fail
  refine (overflow_any _).mono ?_
  rintro e w1 ⟨rfl, hb1⟩
  obtain ⟨c0, c1, f0, f1⟩ := (Box.new w false 0).later hb1
  go_wp2
  exact bodyPost_ret (v := .agg #[.bool true, .int .i64 0]) (by simp [results, Tryz.results89, go_sem, c0, c1]) rfl ⟨rfl, ((Below.chain (bal (Below.refl _ _) _) hb1).setCell (Nat.le_refl _) _).setCell (Nat.le_refl _) _⟩
 ·
  have hd : ¬ (9223372036854775807 : Int) < m := by omega
  rw [if_neg h]
  have e1 : IntKind.i64.wrap (m : Int) = m := by rw [IntKind.wrap_i64]; omega
  have e2 : IntKind.i64.wrap (-(m : Int)) = -(m : Int) := by rw [IntKind.wrap_i64]; omega
  cases b with
  | true =>
   go_enter Tryz.func89, Tryz.ntmps89
   go_wp2
   exact bodyPost_ret (v := .agg #[.bool false, .int .i64 (-(m : Int))]) (by simp [results, Tryz.results89, go_sem]) rfl ⟨rfl, bal (Below.refl _ _) _⟩
  | false =>
   go_enter Tryz.func89, Tryz.ntmps89
   go_wp2
   exact bodyPost_ret (v := .agg #[.bool false, .int .i64 (m : Int)]) (by simp [results, Tryz.results89, go_sem]) rfl ⟨rfl, bal (Below.refl _ _) _⟩
end Go.Proofs.YtjgckfcocmhnhaaGreatDoor
namespace Go.Proofs.YtjgckfcocmhnhaaGreatDoor
open Go.RowKit
theorem take_at {P : Program} {ops : Array Oper} {Q : Exit → Act → World → Prop} {md : Region.Mode} {S : World → Prop} (i : Nat) (d : Option Tmp) (v : Value) {oi : Oper} {fuel : Nat} {listed : Array Bool} {a : Act} {w : World} (hi : ops[i]? = some oi) (hd : oi.dst = d)
  (hs : Region.noSelect ops = true) (hf : Region.free md ops listed i = true) (hr : (Region.ready md ops listed).contains i = true)
  (hQ : ∀ c a w, Q (.panic c) (a.put oi.dst v) w → Q (.panic c) a w) (hw : Region.wanted oi (yielded ops a.tmps) = true) (hy : ∀ w, S w → (execOp a.eval oi).run P w = .ok (.value v) w) (hS : S w)
  (h : wpAnyH P md ops Q S fuel (listed.setIfInBounds i true) (a.put d v) w) : wpAnyH P md ops Q S (fuel + 1) listed a w := by
 subst hd
 exact wpAnyH_take hi hs hf hr hQ (Or.inl ⟨hw, hy⟩) hS h
theorem skip_at {P : Program} {ops : Array Oper} {Q : Exit → Act → World → Prop} {md : Region.Mode} {S : World → Prop} (i : Nat) (d : Option Tmp) {oi : Oper} {fuel : Nat} {listed : Array Bool} {a : Act} {w : World} (hi : ops[i]? = some oi) (hd : oi.dst = d)
  (hs : Region.noSelect ops = true) (hf : Region.free md ops listed i = true) (hr : (Region.ready md ops listed).contains i = true)
  (hQ : ∀ c a w, Q (.panic c) (a.put oi.dst undef) w → Q (.panic c) a w) (hw : Region.wanted oi (yielded ops a.tmps) = false) (hS : S w)
  (h : wpAnyH P md ops Q S fuel (listed.setIfInBounds i true) (a.put d undef) w) : wpAnyH P md ops Q S (fuel + 1) listed a w := by
 subst hd
 exact wpAnyH_take hi hs hf hr hQ (Or.inr ⟨hw, rfl⟩) hS h
theorem set_other {w : World} {a b : Addr} {v : Value} (h : a ≠ b) : (w.setCell a v).cell? b = w.cell? b := by apply World.cell?_setCell_other; exact h
theorem set_same {w : World} {a : Addr} {u v : Value} (h : w.cell? a = some u) : (w.setCell a v).cell? a = some v := by apply World.cell?_setCell_same; exact h
/-- A cut behind a piece of code. -/
theorem region_mid {P : Program} {c : Code} {K : Act → World → Prop} {Q : Exit → Act → World → Prop} {a : Act} {w : World} (R : Act → World → Prop) (h1 : c.wp P (Exit.then R Q) a w) (h2 : ∀ a' w', R a' w' → K a' w') : c.wp P (Exit.then K Q) a w := by
 refine Code.wp_mono ?_ h1
 intro e a' w' h
 cases e <;> first | exact h2 _ _ h | exact h
/-- A number's block, wherever the heap has grown. -/
theorem Box.cells {w : World} {b : Nat} {o : Bool} {n : Int} (h : Box w b o n) : ∀ W, Below w.heap.size w W → W.cell? ⟨b, 0, none⟩ = some (.bool o) ∧ W.cell? ⟨b, 1, none⟩ = some (.int .i64 n) := fun _ hb => ⟨(h.later hb).c0, (h.later hb).c1⟩
theorem Box.at0 {w : World} {b : Nat} {o : Bool} {n : Int} (h : Box w b o n) : ∀ W, Below w.heap.size w W → W.cell? ⟨b, 0, none⟩ = some (.bool o) := fun _ hb => (h.later hb).c0
theorem Box.at1 {w : World} {b : Nat} {o : Bool} {n : Int} (h : Box w b o n) : ∀ W, Below w.heap.size w W → W.cell? ⟨b, 1, none⟩ = some (.int .i64 n) := fun _ hb => (h.later hb).c1
theorem Box.put {w : World} {b : Nat} {o p : Bool} {n m : Int} (h : Box w b o n) : Box ((w.setCell ⟨b, 0, none⟩ (.bool p)).setCell ⟨b, 1, none⟩ (.int .i64 m)) b p m := by
 obtain ⟨c0, c1, f0, f1⟩ := h
 constructor
 ·
  rw [set_other (by intro e; cases e), set_same c0]
 ·
  rw [set_same ((set_other (by intro e; cases e)).trans c1)]
 ·
  simpa using f0
 ·
  simpa using f1
theorem Box.put_other {w : World} {a b : Nat} {o p : Bool} {n m : Int} (h : Box w b o n) (hab : a ≠ b) : Box ((w.setCell ⟨a, 0, none⟩ (.bool p)).setCell ⟨a, 1, none⟩ (.int .i64 m)) b o n := by
 obtain ⟨c0, c1, f0, f1⟩ := h
 have e : ∀ i j, (⟨a, i, none⟩ : Addr) ≠ ⟨b, j, none⟩ := fun i j e => hab (by cases e; rfl)
 constructor
 ·
  rw [set_other (e _ _), set_other (e _ _)]; exact c0
 ·
  rw [set_other (e _ _), set_other (e _ _)]; exact c1
 ·
  simpa using f0
 ·
  simpa using f1
theorem put2 {B : Nat} {a w : World} (h : Below B a w) {b : Nat} (hp : B ≤ b) (p : Bool) (m : Int) : Below B a ((w.setCell ⟨b, 0, none⟩ (.bool p)).setCell ⟨b, 1, none⟩ (.int .i64 m)) := (h.setCell hp _).setCell hp _
theorem Box.lt {w : World} {b : Nat} {o : Bool} {n : Int} (h : Box w b o n) : b < w.heap.size := World.block_lt_of_cell? _ _ h.c0
theorem boxes1 (w : World) (o : Bool) (n : Int) : Box ((w.alloc (.cells #[.bool o, .int .i64 n] 33)).alloc (.cells #[.bool false, .int .i64 0] 33)) w.heap.size o n ∧ Box ((w.alloc (.cells #[.bool o, .int .i64 n] 33)).alloc (.cells #[.bool false, .int .i64 0] 33)) (w.heap.size + 1) false 0 ∧ Below w.heap.size w ((w.alloc (.cells #[.bool o, .int .i64 n] 33)).alloc (.cells #[.bool false, .int .i64 0] 33)) := by
 have hsz : (w.alloc (.cells #[.bool o, .int .i64 n] 33)).heap.size = w.heap.size + 1 := by simp
 have hy := Box.new (w.alloc (.cells #[.bool o, .int .i64 n] 33)) false 0
 rw [hsz] at hy
 exact ⟨(Box.new w o n).later (bal (Below.refl _ _) _), hy, bal (bal (Below.refl _ _) _) _⟩
theorem boxes2 (w : World) (o p : Bool) (n m : Int) : Box ((w.alloc (.cells #[.bool o, .int .i64 n] 33)).alloc (.cells #[.bool p, .int .i64 m] 33)) w.heap.size o n ∧ Box ((w.alloc (.cells #[.bool o, .int .i64 n] 33)).alloc (.cells #[.bool p, .int .i64 m] 33)) (w.heap.size + 1) p m ∧ Below w.heap.size w ((w.alloc (.cells #[.bool o, .int .i64 n] 33)).alloc (.cells #[.bool p, .int .i64 m] 33)) := by
 have hsz : (w.alloc (.cells #[.bool o, .int .i64 n] 33)).heap.size = w.heap.size + 1 := by simp
 have hy := Box.new (w.alloc (.cells #[.bool o, .int .i64 n] 33)) p m
 rw [hsz] at hy
 exact ⟨(Box.new w o n).later (bal (Below.refl _ _) _), hy, bal (bal (Below.refl _ _) _) _⟩
theorem boxes3 (w : World) (o p q : Bool) (n m k : Int) : Box (((w.alloc (.cells #[.bool o, .int .i64 n] 33)).alloc (.cells #[.bool p, .int .i64 m] 33)).alloc (.cells #[.bool q, .int .i64 k] 33)) w.heap.size o n ∧ Box (((w.alloc (.cells #[.bool o, .int .i64 n] 33)).alloc (.cells #[.bool p, .int .i64 m] 33)).alloc (.cells #[.bool q, .int .i64 k] 33)) (w.heap.size + 1) p m ∧ Box (((w.alloc (.cells #[.bool o, .int .i64 n] 33)).alloc (.cells #[.bool p, .int .i64 m] 33)).alloc (.cells #[.bool q, .int .i64 k] 33)) (w.heap.size + 2) q k ∧ Below w.heap.size w (((w.alloc (.cells #[.bool o, .int .i64 n] 33)).alloc (.cells #[.bool p, .int .i64 m] 33)).alloc (.cells #[.bool q, .int .i64 k] 33)) := by
 obtain ⟨h1, h2, h3⟩ := boxes2 w o p n m
 have hsz : ((w.alloc (.cells #[.bool o, .int .i64 n] 33)).alloc (.cells #[.bool p, .int .i64 m] 33)).heap.size = w.heap.size + 2 := by simp
 have hy := Box.new ((w.alloc (.cells #[.bool o, .int .i64 n] 33)).alloc (.cells #[.bool p, .int .i64 m] 33)) q k
 rw [hsz] at hy
 exact ⟨h1.later (bal (Below.refl _ _) _), h2.later (bal (Below.refl _ _) _), hy, bal h3 _⟩
end Go.Proofs.YtjgckfcocmhnhaaGreatDoor
namespace Go.Proofs.YtjgckfcocmhnhaaGreatDoor
open Go.RowKit
set_option maxHeartbeats 1000000 in
theorem is_any (o : Bool) (n : Int) (w : World) : Calls Tryz.prog 67 #[.agg #[.bool o, .int .i64 n]] w fun e w' => e = .returned (.bool (fIs o n)) ∧ Below w.heap.size w w' := by
 cases o with
 | true =>
  by_cases hz : n = 0
  ·
   subst hz
   have hx := Box.new w true 0
   have hb0 : Below w.heap.size w (w.alloc (.cells #[.bool true, .int .i64 0] 33)) := bal (Below.refl _ _) _
   go_enter Tryz.func67, Tryz.ntmps67
   go_wp2_with fail
   generalize w.alloc (.cells #[.bool true, .int .i64 0] 33) = w1 at *
   have h0 := hx.at0
   have h1 := hx.at1
   have B2 : Below w1.heap.size w1 w1.drew := (Below.refl _ _).drew
   refine wp_region_noPanic ?_
   refine wp_region_held_drew (S := fun W => Below w1.heap.size w1 W) (by kernel_rfl) ?_ (fun _ => ?_)
   ·
    exact B2
   refine take_at 0 (some 3) ((.agg #[.bool true, .int .i64 0])) rfl rfl (by kernel_rfl) (by kernel_rfl) (by kernel_rfl) (fun _ _ _ h => h) (by rfl) (fun W hSw => by go_simp) B2 ?_
   simp only [Act.put, List.setIfInBounds_toArray, List.set_cons_zero, List.set_cons_succ]
   refine wpAnyH_ready (rs := [1]) (by kernel_rfl) (by simp) ?_
   refine AllReadyH.cons rfl (fun K hK => ?_) AllReadyH.nil
   go_simp
   refine (overflow_any _).mono ?_
   rintro e w2 ⟨rfl, hb2⟩
   have B3 := Below.chain B2 hb2
   refine hK.out _ _ ?_ (fun _ => ?_)
   ·
    exact B3
   clear hK K
   refine take_at 2 (some 5) (.bool true) rfl rfl (by kernel_rfl) (by kernel_rfl) (by kernel_rfl) (fun _ _ _ h => h) (by rfl) (fun W hSw => by go_simp) B3 ?_
   simp only [Act.put, List.setIfInBounds_toArray, List.set_cons_zero, List.set_cons_succ]
   refine take_at 3 (some 6) (.bool true) rfl rfl (by kernel_rfl) (by kernel_rfl) (by kernel_rfl) (fun _ _ _ h => h) (by rfl) (fun W hSw => by go_simp) B3 ?_
   simp only [Act.put, List.setIfInBounds_toArray, List.set_cons_zero, List.set_cons_succ]
   refine skip_at 4 (some 7) rfl rfl (by kernel_rfl) (by kernel_rfl) (by kernel_rfl) (fun _ _ _ h => h) (by rfl) B3 ?_
   simp only [Act.put, List.setIfInBounds_toArray, List.set_cons_zero, List.set_cons_succ]
   refine skip_at 5 (some 8) rfl rfl (by kernel_rfl) (by kernel_rfl) (by kernel_rfl) (fun _ _ _ h => h) (by rfl) B3 ?_
   simp only [Act.put, List.setIfInBounds_toArray, List.set_cons_zero, List.set_cons_succ]
   refine skip_at 6 (some 9) rfl rfl (by kernel_rfl) (by kernel_rfl) (by kernel_rfl) (fun _ _ _ h => h) (by rfl) B3 ?_
   simp only [Act.put, List.setIfInBounds_toArray, List.set_cons_zero, List.set_cons_succ]
   refine skip_at 7 (some 10) rfl rfl (by kernel_rfl) (by kernel_rfl) (by kernel_rfl) (fun _ _ _ h => h) (by rfl) B3 ?_
   simp only [Act.put, List.setIfInBounds_toArray, List.set_cons_zero, List.set_cons_succ]
   refine skip_at 8 (some 11) rfl rfl (by kernel_rfl) (by kernel_rfl) (by kernel_rfl) (fun _ _ _ h => h) (by rfl) B3 ?_
   simp only [Act.put, List.setIfInBounds_toArray, List.set_cons_zero, List.set_cons_succ]
   refine skip_at 9 (some 12) rfl rfl (by kernel_rfl) (by kernel_rfl) (by kernel_rfl) (fun _ _ _ h => h) (by rfl) B3 ?_
   simp only [Act.put, List.setIfInBounds_toArray, List.set_cons_zero, List.set_cons_succ]
   refine skip_at 10 (some 13) rfl rfl (by kernel_rfl) (by kernel_rfl) (by kernel_rfl) (fun _ _ _ h => h) (by rfl) B3 ?_
   simp only [Act.put, List.setIfInBounds_toArray, List.set_cons_zero, List.set_cons_succ]
   refine skip_at 11 (some 14) rfl rfl (by kernel_rfl) (by kernel_rfl) (by kernel_rfl) (fun _ _ _ h => h) (by rfl) B3 ?_
   simp only [Act.put, List.setIfInBounds_toArray, List.set_cons_zero, List.set_cons_succ]
   refine take_at 12 (some 15) (.bool true) rfl rfl (by kernel_rfl) (by kernel_rfl) (by kernel_rfl) (fun _ _ _ h => h) (by rfl) (fun W hSw => by go_simp) B3 ?_
   simp only [Act.put, List.setIfInBounds_toArray, List.set_cons_zero, List.set_cons_succ]
   refine take_at 13 (some 2) (.bool true) rfl rfl (by kernel_rfl) (by kernel_rfl) (by kernel_rfl) (fun _ _ _ h => h) (by rfl) (fun W hSw => by go_simp) B3 ?_
   simp only [Act.put, List.setIfInBounds_toArray, List.set_cons_zero, List.set_cons_succ]
   refine wpAnyH_done (by kernel_rfl) ?_ _
   refine NoPanic.normal ?_
   go_wp2
   go_ret
   exact ⟨rfl, Below.chain hb0 B3⟩
  ·
   have hf : fIs true n = false := by simp [fIs, hz]
   rw [hf]
   have hz' : decide (n = 0) = false := decide_eq_false hz
   have hx := Box.new w true n
   have hb0 : Below w.heap.size w (w.alloc (.cells #[.bool true, .int .i64 n] 33)) := bal (Below.refl _ _) _
   go_enter Tryz.func67, Tryz.ntmps67
   go_wp2_with fail
   generalize w.alloc (.cells #[.bool true, .int .i64 n] 33) = w1 at *
   have h0 := hx.at0
   have h1 := hx.at1
   have B2 : Below w1.heap.size w1 w1.drew := (Below.refl _ _).drew
   refine wp_region_noPanic ?_
   refine wp_region_held_drew (S := fun W => Below w1.heap.size w1 W) (by kernel_rfl) ?_ (fun _ => ?_)
   ·
    exact B2
   refine take_at 0 (some 3) ((.agg #[.bool true, .int .i64 n])) rfl rfl (by kernel_rfl) (by kernel_rfl) (by kernel_rfl) (fun _ _ _ h => h) (by rfl) (fun W hSw => by go_simp) B2 ?_
   simp only [Act.put, List.setIfInBounds_toArray, List.set_cons_zero, List.set_cons_succ]
   refine wpAnyH_ready (rs := [1]) (by kernel_rfl) (by simp) ?_
   refine AllReadyH.cons rfl (fun K hK => ?_) AllReadyH.nil
   go_simp
   refine (overflow_any _).mono ?_
   rintro e w2 ⟨rfl, hb2⟩
   have B3 := Below.chain B2 hb2
   refine hK.out _ _ ?_ (fun _ => ?_)
   ·
    exact B3
   clear hK K
   refine take_at 2 (some 5) (.bool false) rfl rfl (by kernel_rfl) (by kernel_rfl) (by kernel_rfl) (fun _ _ _ h => h) (by rfl) (fun W hSw => by go_simp) B3 ?_
   simp only [Act.put, List.setIfInBounds_toArray, List.set_cons_zero, List.set_cons_succ]
   refine take_at 3 (some 6) (.bool false) rfl rfl (by kernel_rfl) (by kernel_rfl) (by kernel_rfl) (fun _ _ _ h => h) (by rfl) (fun W hSw => by go_simp) B3 ?_
   simp only [Act.put, List.setIfInBounds_toArray, List.set_cons_zero, List.set_cons_succ]
   refine take_at 4 (some 7) (.pointer (some ⟨w.heap.size, 0, none⟩)) rfl rfl (by kernel_rfl) (by kernel_rfl) (by kernel_rfl) (fun _ _ _ h => h) (by rfl) (fun W hSw => by go_simp) B3 ?_
   simp only [Act.put, List.setIfInBounds_toArray, List.set_cons_zero, List.set_cons_succ]
   refine take_at 5 (some 8) (.bool true) rfl rfl (by kernel_rfl) (by kernel_rfl) (by kernel_rfl) (fun _ _ _ h => h) (by rfl) (fun W hSw => by go_simp) B3 ?_
   simp only [Act.put, List.setIfInBounds_toArray, List.set_cons_zero, List.set_cons_succ]
   refine take_at 6 (some 9) (.bool false) rfl rfl (by kernel_rfl) (by kernel_rfl) (by kernel_rfl) (fun _ _ _ h => h) (by rfl) (fun W hSw => by go_simp) B3 ?_
   simp only [Act.put, List.setIfInBounds_toArray, List.set_cons_zero, List.set_cons_succ]
   refine take_at 7 (some 10) (.bool false) rfl rfl (by kernel_rfl) (by kernel_rfl) (by kernel_rfl) (fun _ _ _ h => h) (by rfl) (fun W hSw => by go_simp) B3 ?_
   simp only [Act.put, List.setIfInBounds_toArray, List.set_cons_zero, List.set_cons_succ]
   refine skip_at 8 (some 11) rfl rfl (by kernel_rfl) (by kernel_rfl) (by kernel_rfl) (fun _ _ _ h => h) (by rfl) B3 ?_
   simp only [Act.put, List.setIfInBounds_toArray, List.set_cons_zero, List.set_cons_succ]
   refine skip_at 9 (some 12) rfl rfl (by kernel_rfl) (by kernel_rfl) (by kernel_rfl) (fun _ _ _ h => h) (by rfl) B3 ?_
   simp only [Act.put, List.setIfInBounds_toArray, List.set_cons_zero, List.set_cons_succ]
   refine skip_at 10 (some 13) rfl rfl (by kernel_rfl) (by kernel_rfl) (by kernel_rfl) (fun _ _ _ h => h) (by rfl) B3 ?_
   simp only [Act.put, List.setIfInBounds_toArray, List.set_cons_zero, List.set_cons_succ]
   refine take_at 11 (some 14) (.bool false) rfl rfl (by kernel_rfl) (by kernel_rfl) (by kernel_rfl) (fun _ _ _ h => h) (by rfl) (fun W hSw => by go_simp) B3 ?_
   simp only [Act.put, List.setIfInBounds_toArray, List.set_cons_zero, List.set_cons_succ]
   refine take_at 12 (some 15) (.bool false) rfl rfl (by kernel_rfl) (by kernel_rfl) (by kernel_rfl) (fun _ _ _ h => h) (by rfl) (fun W hSw => by go_simp) B3 ?_
   simp only [Act.put, List.setIfInBounds_toArray, List.set_cons_zero, List.set_cons_succ]
   refine take_at 13 (some 2) (.bool false) rfl rfl (by kernel_rfl) (by kernel_rfl) (by kernel_rfl) (fun _ _ _ h => h) (by rfl) (fun W hSw => by go_simp) B3 ?_
   simp only [Act.put, List.setIfInBounds_toArray, List.set_cons_zero, List.set_cons_succ]
   refine wpAnyH_done (by kernel_rfl) ?_ _
   refine NoPanic.normal ?_
   go_wp2
   go_ret
   exact ⟨rfl, Below.chain hb0 B3⟩
 | false =>
  show Calls _ _ _ _ fun e w' => e = .returned (.bool (decide (-9223372036854775807 ≤ n))) ∧ _
  have hx := Box.new w false n
  have hb0 : Below w.heap.size w (w.alloc (.cells #[.bool false, .int .i64 n] 33)) := bal (Below.refl _ _) _
  go_enter Tryz.func67, Tryz.ntmps67
  go_wp2_with fail
  generalize w.alloc (.cells #[.bool false, .int .i64 n] 33) = w1 at *
  have h0 := hx.at0
  have h1 := hx.at1
  have B2 : Below w1.heap.size w1 w1.drew := (Below.refl _ _).drew
  refine wp_region_noPanic ?_
  refine wp_region_held_drew (S := fun W => Below w1.heap.size w1 W) (by kernel_rfl) ?_ (fun _ => ?_)
  ·
   exact B2
  refine take_at 0 (some 3) ((.agg #[.bool false, .int .i64 n])) rfl rfl (by kernel_rfl) (by kernel_rfl) (by kernel_rfl) (fun _ _ _ h => h) (by rfl) (fun W hSw => by go_simp) B2 ?_
  simp only [Act.put, List.setIfInBounds_toArray, List.set_cons_zero, List.set_cons_succ]
  refine wpAnyH_ready (rs := [1]) (by kernel_rfl) (by simp) ?_
  refine AllReadyH.cons rfl (fun K hK => ?_) AllReadyH.nil
  go_simp
  refine (overflow_any _).mono ?_
  rintro e w2 ⟨rfl, hb2⟩
  have B3 := Below.chain B2 hb2
  refine hK.out _ _ ?_ (fun _ => ?_)
  ·
   exact B3
  clear hK K
  refine take_at 2 (some 5) (.bool false) rfl rfl (by kernel_rfl) (by kernel_rfl) (by kernel_rfl) (fun _ _ _ h => h) (by rfl) (fun W hSw => by go_simp) B3 ?_
  simp only [Act.put, List.setIfInBounds_toArray, List.set_cons_zero, List.set_cons_succ]
  refine take_at 3 (some 6) (.bool false) rfl rfl (by kernel_rfl) (by kernel_rfl) (by kernel_rfl) (fun _ _ _ h => h) (by rfl) (fun W hSw => by go_simp) B3 ?_
  simp only [Act.put, List.setIfInBounds_toArray, List.set_cons_zero, List.set_cons_succ]
  refine take_at 4 (some 7) (.pointer (some ⟨w.heap.size, 0, none⟩)) rfl rfl (by kernel_rfl) (by kernel_rfl) (by kernel_rfl) (fun _ _ _ h => h) (by rfl) (fun W hSw => by go_simp) B3 ?_
  simp only [Act.put, List.setIfInBounds_toArray, List.set_cons_zero, List.set_cons_succ]
  refine take_at 5 (some 8) (.bool false) rfl rfl (by kernel_rfl) (by kernel_rfl) (by kernel_rfl) (fun _ _ _ h => h) (by rfl) (fun W hSw => by go_simp) B3 ?_
  simp only [Act.put, List.setIfInBounds_toArray, List.set_cons_zero, List.set_cons_succ]
  refine take_at 6 (some 9) (.bool true) rfl rfl (by kernel_rfl) (by kernel_rfl) (by kernel_rfl) (fun _ _ _ h => h) (by rfl) (fun W hSw => by go_simp) B3 ?_
  simp only [Act.put, List.setIfInBounds_toArray, List.set_cons_zero, List.set_cons_succ]
  refine take_at 7 (some 10) (.bool true) rfl rfl (by kernel_rfl) (by kernel_rfl) (by kernel_rfl) (fun _ _ _ h => h) (by rfl) (fun W hSw => by go_simp) B3 ?_
  simp only [Act.put, List.setIfInBounds_toArray, List.set_cons_zero, List.set_cons_succ]
  refine take_at 8 (some 11) (.pointer (some ⟨w.heap.size, 1, none⟩)) rfl rfl (by kernel_rfl) (by kernel_rfl) (by kernel_rfl) (fun _ _ _ h => h) (by rfl) (fun W hSw => by go_simp) B3 ?_
  simp only [Act.put, List.setIfInBounds_toArray, List.set_cons_zero, List.set_cons_succ]
  refine take_at 9 (some 12) (.int .i64 n) rfl rfl (by kernel_rfl) (by kernel_rfl) (by kernel_rfl) (fun _ _ _ h => h) (by rfl) (fun W hSw => by go_simp) B3 ?_
  simp only [Act.put, List.setIfInBounds_toArray, List.set_cons_zero, List.set_cons_succ]
  refine take_at 10 (some 13) (.bool (decide (-9223372036854775807 ≤ n))) rfl rfl (by kernel_rfl) (by kernel_rfl) (by kernel_rfl) (fun _ _ _ h => h) (by rfl) (fun W hSw => by go_simp) B3 ?_
  simp only [Act.put, List.setIfInBounds_toArray, List.set_cons_zero, List.set_cons_succ]
  refine take_at 11 (some 14) (.bool (decide (-9223372036854775807 ≤ n))) rfl rfl (by kernel_rfl) (by kernel_rfl) (by kernel_rfl) (fun _ _ _ h => h) (by rfl) (fun W hSw => by go_simp) B3 ?_
  simp only [Act.put, List.setIfInBounds_toArray, List.set_cons_zero, List.set_cons_succ]
  refine take_at 12 (some 15) (.bool (decide (-9223372036854775807 ≤ n))) rfl rfl (by kernel_rfl) (by kernel_rfl) (by kernel_rfl) (fun _ _ _ h => h) (by rfl) (fun W hSw => by go_simp) B3 ?_
  simp only [Act.put, List.setIfInBounds_toArray, List.set_cons_zero, List.set_cons_succ]
  refine take_at 13 (some 2) (.bool (decide (-9223372036854775807 ≤ n))) rfl rfl (by kernel_rfl) (by kernel_rfl) (by kernel_rfl) (fun _ _ _ h => h) (by rfl) (fun W hSw => by go_simp) B3 ?_
  simp only [Act.put, List.setIfInBounds_toArray, List.set_cons_zero, List.set_cons_succ]
  refine wpAnyH_done (by kernel_rfl) ?_ _
  refine NoPanic.normal ?_
  go_wp2
  go_ret
  exact ⟨rfl, Below.chain hb0 B3⟩
end Go.Proofs.YtjgckfcocmhnhaaGreatDoor
namespace Go.Proofs.YtjgckfcocmhnhaaGreatDoor
open Go.RowKit
theorem is_cnt {o : Bool} {n : Int} (h : fIs o n = true) : ov (cnt o n) = o ∧ nn (cnt o n) = n := by
 cases o with
 | true =>
  have : n = 0 := by simpa [fIs] using h
  subst this
  exact ⟨rfl, rfl⟩
 | false =>
  have : -9223372036854775807 ≤ n := by simpa [fIs] using h
  unfold cnt
  rw [if_neg (by intro e; rcases e with e | e; cases e; omega)]
  exact ⟨rfl, rfl⟩
theorem isnt_cnt {o : Bool} {n : Int} (h0 : -9223372036854775808 ≤ n) (h : fIs o n = false) : cnt o n = none := by
 unfold cnt
 rw [if_pos]
 cases o with
 | true => exact Or.inl rfl
 | false =>
  have : ¬ -9223372036854775807 ≤ n := by simpa [fIs] using h
  exact Or.inr (by omega)
set_option maxHeartbeats 1000000 in
theorem counted_any (o : Bool) (n : Int) (w : World) (h0 : -9223372036854775808 ≤ n) : Calls Tryz.prog 56 #[.agg #[.bool o, .int .i64 n]] w fun e w' => e = .returned (.agg #[.bool (ov (cnt o n)), .int .i64 (nn (cnt o n))]) ∧ Below w.heap.size w w' := by
 obtain ⟨hx1, hy, hb2⟩ := boxes1 w o n
 cases hi : fIs o n with
 | true =>
  obtain ⟨e1, e2⟩ := is_cnt hi
  rw [e1, e2]
  go_enter Tryz.func56, Tryz.ntmps56
  go_wp2_with fail
  refine (is_any _ _ _).mono ?_
  rintro e w1 ⟨rfl, hb3⟩
  rw [hi]
  obtain ⟨c0, c1, f0, f1⟩ := hx1.later hb3
  obtain ⟨d0, d1, g0, g1⟩ := hy.later hb3
  go_wp2
  exact bodyPost_ret (v := .agg #[.bool o, .int .i64 n]) (by simp [results, Tryz.results56, go_sem, d0, d1]) rfl ⟨rfl, put2 (Below.chain hb2 hb3) (by omega) _ _⟩
 | false =>
  rw [isnt_cnt h0 hi]
  go_enter Tryz.func56, Tryz.ntmps56
  go_wp2_with fail
  refine (is_any _ _ _).mono ?_
  rintro e w1 ⟨rfl, hb3⟩
  rw [hi]
  go_wp2_with fail
  refine (overflow_any _).mono ?_
  rintro e w2 ⟨rfl, hb4⟩
  have hb5 := Below.chain hb3 hb4
  obtain ⟨d0, d1, g0, g1⟩ := hy.later hb5
  go_wp2
  exact bodyPost_ret (v := .agg #[.bool true, .int .i64 0]) (by simp [results, Tryz.results56, go_sem, d0, d1]) rfl ⟨rfl, put2 (Below.chain hb2 hb5) (by omega) _ _⟩
theorem neg_wrap {r : Option Int} (h : V r) : wrap64 (-(nn r)) = nn (fNeg r) ∧ ov (fNeg r) = ov r := by
 cases r with
 | none => exact ⟨by show wrap64 (-0) = 0; unfold wrap64; omega, rfl⟩
 | some n =>
  have h1 : -9223372036854775807 ≤ n := h.1
  have h2 : n ≤ 9223372036854775807 := h.2
  exact ⟨by show wrap64 (-n) = -n; unfold wrap64; omega, rfl⟩
set_option maxHeartbeats 1000000 in
theorem neg_any (o : Bool) (n : Int) (w : World) (h0 : -9223372036854775808 ≤ n) (h1 : n ≤ 9223372036854775807) : Calls Tryz.prog 135 #[.agg #[.bool o, .int .i64 n]] w fun e w' => e = .returned (.agg #[.bool (ov (fNeg (cnt o n))), .int .i64 (nn (fNeg (cnt o n)))]) ∧ Below w.heap.size w w' := by
 have hv : V (cnt o n) := V.cnt h0 h1
 obtain ⟨e1, e2⟩ := neg_wrap hv
 obtain ⟨hx1, hy, hb2⟩ := boxes1 w o n
 have E1 : Hid _ := e1
 rw [e2]
 clear e1 e2
 go_enter Tryz.func135, Tryz.ntmps135
 go_wp2_with fail
 refine (counted_any _ _ _ h0).mono ?_
 rintro e w1 ⟨rfl, hb3⟩
 have hx2 := hx1.later hb3
 obtain ⟨p0, p1, _, _⟩ := hx2.put (p := ov (cnt o n)) (m := nn (cnt o n))
 have q1 := set_same p1 (v := .int .i64 (wrap64 (-nn (cnt o n))))
 obtain ⟨c0, c1, f0, f1⟩ := hx2
 obtain ⟨d0, d1, g0, g1⟩ := hy.later hb3
 go_wp2
 rw [E1.out]
 refine bodyPost_ret (v := .agg #[.bool (ov (cnt o n)), .int .i64 (nn (fNeg (cnt o n)))]) (by simp [results, Tryz.results135, go_sem, d0, d1]) rfl ⟨rfl, put2 ((put2 (Below.chain hb2 hb3) (by omega) _ _).setCell (by simp) _) (by omega) _ _⟩
end Go.Proofs.YtjgckfcocmhnhaaGreatDoor
namespace Go.Proofs.YtjgckfcocmhnhaaGreatDoor
open Go.RowKit
theorem add64 (x y c : Int) (hx : 0 ≤ x) (hy : 0 ≤ y) (hc0 : 0 ≤ c) (hc : c ≤ 1) (w : World) : (callFunc 131 #[.int .u64 x, .int .u64 y, .int .u64 c]).run Tryz.prog w =
  .ok (.value (.tuple #[.int .u64 ((x + y + c) % 18446744073709551616), .int .u64 ((x + y + c) / 18446744073709551616)])) w := by
 rw [run_callFunc_extern Tryz.func131 (by kernel_rfl) (by kernel_rfl) (by kernel_rfl) (e := add64Entry) (by kernel_rfl), run_add64 x y c hx hy hc0 hc]
 rfl
theorem add_low (s a : Int) (w : World) : (callFunc 131 #[.int .u64 (lo s), .int .u64 (IntKind.u64.wrap a), .int .u64 0]).run Tryz.prog w =
  .ok (.value (.tuple #[.int .u64 (lo (s + a)), .int .u64 (cy s a)])) w := by
 rw [IntKind.wrap_u64, add64 _ _ _ (lo_range s).1 (by omega) (by omega) (by omega), ← lo_add, Int.add_zero]
 rfl
theorem add_high (s a : Int) (h0 : -9223372036854775808 ≤ a) (h1 : a ≤ 9223372036854775807) (w : World) : (callFunc 131 #[.int .u64 (hi s), .int .u64 (sb a), .int .u64 (cy s a)]).run Tryz.prog w =
  .ok (.value (.tuple #[.int .u64 (hi (s + a)), .int .u64 ((hi s + sb a + cy s a) / 18446744073709551616)])) w := by
 rw [add64 _ _ _ (hi_range s).1 (sb_range a).1 (cy_range s a).1 (cy_range s a).2, hi_add s a h0 h1]
theorem signBits_sb (n : Int) (w : World) : Calls Tryz.prog 132 #[.int .i64 n] w fun e w' => e = .returned (.int .u64 (sb n)) ∧ w = w' := signBits_any n w
/-- A slice of numbers that reads as l. -/
def Ns (w : World) (ao : Option Addr) (n : Nat) (l : List (Bool × Int)) : Prop :=
 l.length = n ∧ (0 < n → ∃ b off, ao = some ⟨b, off, none⟩ ∧ ∀ j, j < n → w.cell? ⟨b, off + j * 2, none⟩ = some (.bool (l.getD j (false, 0)).1) ∧ w.cell? ⟨b, off + j * 2 + 1, none⟩ = some (.int .i64 (l.getD j (false, 0)).2))
theorem counted_some {o : Bool} {n a : Int} (hr : cnt o n = some a) (w : World) (h0 : -9223372036854775808 ≤ n) : Calls Tryz.prog 56 #[.agg #[.bool o, .int .i64 n]] w fun e w' => e = .returned (.agg #[.bool false, .int .i64 a]) ∧ Below w.heap.size w w' := by
 have h := counted_any o n w h0
 rw [hr] at h
 exact h
theorem counted_none {o : Bool} {n : Int} (hr : cnt o n = none) (w : World) (h0 : -9223372036854775808 ≤ n) : Calls Tryz.prog 56 #[.agg #[.bool o, .int .i64 n]] w fun e w' => e = .returned (.agg #[.bool true, .int .i64 0]) ∧ Below w.heap.size w w' := by
 have h := counted_any o n w h0
 rw [hr] at h
 exact h
theorem getD_mem {l : List (Bool × Int)} {j : Nat} (h : j < l.length) : l.getD j (false, 0) ∈ l := by
 rw [List.getD_eq_getElem?_getD, List.getElem?_eq_getElem h]
 exact List.getElem_mem h
set_option maxHeartbeats 1000000 in
theorem sum_any (ao : Option Addr) (n cap : Nat) (l : List (Bool × Int)) (w : World) (hn : n ≤ 1000) (hs : Ns w ao n l) (hl : ∀ x ∈ l, -9223372036854775808 ≤ x.2 ∧ x.2 ≤ 9223372036854775807) :
  Calls Tryz.prog 116 #[.slice ao n cap] w fun e w' => e = .returned (.agg #[.bool (ov (fSum (cnts l))), .int .i64 (nn (fSum (cnts l)))]) ∧ Below w.heap.size w w' := by
 have hx := Box.new w false 0
 have hb0 : Below w.heap.size w (w.alloc (.cells #[.bool false, .int .i64 0] 33)) := bal (Below.refl _ _) _
 go_enter Tryz.func116, Tryz.ntmps116
 go_wp2_with fail
 go_loopw [3, 4, 11] (fun h o i wr => ∃ (j : Nat) (s : Int), j ≤ n ∧ i = .int .i64 j ∧ h = .int .u64 (hi s) ∧ o = .int .u64 (lo s) ∧ sumL (cnts (l.take j)) = some s ∧ Box wr w.heap.size false 0 ∧ Below w.heap.size w wr) (fun _ _ i _ => n - (intOf i).toNat)
 case atStart => exact ⟨0, 0, by omega, rfl, rfl, rfl, rfl, hx, hb0⟩
 case round =>
  obtain ⟨j, s, hj, rfl, rfl, rfl, hsum, hbx, hbw⟩ := hrel
  by_cases hlt : j < n
  ·
   obtain ⟨b, off, rfl, hcell⟩ := hs.2 (by omega)
   obtain ⟨k0, k1⟩ := hcell j hlt
   have k0' := (hbw.cell (World.block_lt_of_cell? _ _ k0)).trans k0
   have k1' := (hbw.cell (World.block_lt_of_cell? _ _ k1)).trans k1
   have hlen : j < l.length := by rw [hs.1]; exact hlt
   have hm := hl _ (getD_mem hlen)
   cases hr : cnt (l.getD j (false, 0)).1 (l.getD j (false, 0)).2 with
   | none =>
    have hsn : Hid _ := sumL_none hlen hr
    generalize (l.getD j (false, 0)) = x at *
    obtain ⟨o, m⟩ := x
    have hy := Box.new wr o m
    have hb1 : Below w.heap.size w (wr.alloc (.cells #[.bool o, .int .i64 m] 33)) := bal hbw _
    have hbx1 := hbx.later (bal (Below.refl _ _) (.cells #[.bool o, .int .i64 m] 33))
    have hlt1 := hbx.lt
    clear k0 k1 hcell
    go_wp2_with fail
    refine (counted_none hr _ hm.1).mono ?_
    rintro e w1 ⟨rfl, hb2⟩
    have hy1 := hy.later hb2
    have hbx2 := hbx1.later hb2
    have hb3 := put2 (Below.chain hb1 hb2) (b := wr.heap.size) hbw.size true 0
    have hbx3 := hbx2.put_other (a := wr.heap.size) (p := true) (m := 0) (by omega)
    obtain ⟨p0, p1, _, _⟩ := hy1.put (p := true) (m := 0)
    obtain ⟨c0, c1, f0, f1⟩ := hy1
    go_wp2_with fail
    refine (overflow_any _).mono ?_
    rintro e w2 ⟨rfl, hb4⟩
    obtain ⟨d0, d1, g0, g1⟩ := hbx3.later hb4
    go_wp2
    refine bodyPost_ret (v := .agg #[.bool true, .int .i64 0]) (by simp [results, Tryz.results116, go_sem, d0, d1]) rfl ⟨?_, put2 (Below.chain hb3 hb4) (by omega) _ _⟩
    unfold fSum
    rw [hsn.out]
    rfl
   | some a =>
    have hsn : Hid _ := sumL_snoc hlen hsum hr
    have hva : V (cnt (l.getD j (false, 0)).1 (l.getD j (false, 0)).2) := V.cnt hm.1 hm.2
    rw [hr] at hva
    have ha1 : -9223372036854775807 ≤ a := hva.1
    have ha2 : a ≤ 9223372036854775807 := hva.2
    generalize (l.getD j (false, 0)) = x at *
    obtain ⟨o, m⟩ := x
    have hy := Box.new wr o m
    have hb1 : Below w.heap.size w (wr.alloc (.cells #[.bool o, .int .i64 m] 33)) := bal hbw _
    have hbx1 := hbx.later (bal (Below.refl _ _) (.cells #[.bool o, .int .i64 m] 33))
    have hlt1 := hbx.lt
    clear k0 k1 hcell
    go_wp2_with fail
    refine (counted_some hr _ hm.1).mono ?_
    rintro e w1 ⟨rfl, hb2⟩
    have hy1 := hy.later hb2
    have hbx2 := hbx1.later hb2
    have hb3 := put2 (Below.chain hb1 hb2) (b := wr.heap.size) hbw.size false a
    have hbx3 := hbx2.put_other (a := wr.heap.size) (p := false) (m := a) (by omega)
    obtain ⟨p0, p1, _, _⟩ := hy1.put (p := false) (m := a)
    obtain ⟨c0, c1, f0, f1⟩ := hy1
    clear hr hva
    have ha3 : -9223372036854775808 ≤ a := by omega
    go_wp2_with (first | simp only [add_low s a] | simp only [add_high s a ha3 ha2] | (go_at_call 132; refine (signBits_sb _ _).mono ?_; rintro e w2 ⟨rfl, rfl⟩))
    go_roundw
    case rel => exact ⟨j + 1, s + a, by omega, by go_num, rfl, rfl, hsn.out, hbx3, hb3⟩
    case measure => simp [intOf]; omega
  ·
   obtain rfl : j = n := by omega
   have hrg := sumL_range l hl s (by rw [← hsum, List.take_of_length_le (by rw [hs.1]; omega)])
   have hsl : sumL (cnts l) = some s := by rw [← hsum, List.take_of_length_le (by rw [hs.1]; omega)]
   rw [hs.1] at hrg
   have hlr := lo_range s
   have hw : wrap64 (lo s) = (if lo s < 9223372036854775808 then lo s else lo s - 18446744073709551616) := by unfold wrap64; split <;> omega
   have hf := hi_fits s (by omega) (by omega) _ hw
   have hres : fSum (cnts l) = norm s := by unfold fSum; rw [hsl]
   have Hres : Hid _ := hres
   clear hres hsl hsum
   have hwr : -9223372036854775808 ≤ wrap64 (lo s) ∧ wrap64 (lo s) ≤ 9223372036854775807 := by unfold wrap64; omega
   clear hw
   rcases hf with ⟨f1, f2, f3, f4⟩ | ⟨f1, f2⟩
   ·
    have hd : decide (hi s = sb (wrap64 (lo s))) = true := decide_eq_true f1
    go_wp2_with (go_at_call 132; refine (signBits_sb _ _).mono ?_; rintro e w2 ⟨rfl, rfl⟩)
    refine (counted_any _ _ _ f3).mono ?_
    rintro e w1 ⟨rfl, hb1⟩
    rw [cnt_norm f3 f4]
    obtain ⟨d0, d1, g0, g1⟩ := hbx.later hb1
    go_wp2
    exact bodyPost_ret (v := .agg #[.bool (ov (norm s)), .int .i64 (nn (norm s))]) (by simp [results, Tryz.results116, go_sem, d0, d1]) rfl ⟨by rw [Hres.out], put2 (Below.chain hbw hb1) (by omega) _ _⟩
   ·
    have hd : decide (hi s = sb (wrap64 (lo s))) = false := decide_eq_false f1
    go_wp2_with (go_at_call 132; refine (signBits_sb _ _).mono ?_; rintro e w2 ⟨rfl, rfl⟩)
    refine (overflow_any _).mono ?_
    rintro e w1 ⟨rfl, hb1⟩
    obtain ⟨d0, d1, g0, g1⟩ := hbx.later hb1
    go_wp2
    exact bodyPost_ret (v := .agg #[.bool true, .int .i64 0]) (by simp [results, Tryz.results116, go_sem, d0, d1]) rfl ⟨by rw [Hres.out, norm_out f2]; rfl, put2 (Below.chain hbw hb1) (by omega) _ _⟩
/-- Two numbers in new memory. -/
theorem Ns.two (w : World) (o p : Bool) (n m : Int) : Ns (w.alloc (.cells #[.bool o, .int .i64 n, .bool p, .int .i64 m] 33)) (some ⟨w.heap.size, 0, none⟩) 2 [(o, n), (p, m)] := by
 refine ⟨rfl, fun _ => ⟨_, 0, rfl, fun j hj => ?_⟩⟩
 have : j = 0 ∨ j = 1 := by omega
 rcases this with rfl | rfl <;> constructor <;> simp [go_sem]
theorem Ns.three (w : World) (o p q : Bool) (n m k : Int) : Ns (w.alloc (.cells #[.bool o, .int .i64 n, .bool p, .int .i64 m, .bool q, .int .i64 k] 33)) (some ⟨w.heap.size, 0, none⟩) 3 [(o, n), (p, m), (q, k)] := by
 refine ⟨rfl, fun _ => ⟨_, 0, rfl, fun j hj => ?_⟩⟩
 have : j = 0 ∨ j = 1 ∨ j = 2 := by omega
 rcases this with rfl | rfl | rfl <;> constructor <;> simp [go_sem]
theorem Ns.nil (w : World) : Ns w none 0 [] := ⟨rfl, fun h => by omega⟩
/-- What is no number's pair of an int64 is barred. -/
def R64 (n : Int) : Prop := -9223372036854775808 ≤ n ∧ n ≤ 9223372036854775807
theorem sum_two (w : World) (g : Nat) (o p : Bool) (n m : Int) (hn : R64 n) (hm : R64 m) (hg : g = w.heap.size) :
  Calls Tryz.prog 116 #[.slice (some ⟨g, 0, none⟩) 2 2] (w.alloc (.cells #[.bool o, .int .i64 n, .bool p, .int .i64 m] 33)) fun e w' => e = .returned (.agg #[.bool (ov (fAdd (cnt o n) (cnt p m))), .int .i64 (nn (fAdd (cnt o n) (cnt p m)))]) ∧ Below w.heap.size w w' := by
 subst hg
 refine (sum_any _ 2 2 _ _ (by omega) (Ns.two w o p n m) (by
  intro x hx
  rcases List.mem_cons.1 hx with rfl | hx
  ·
   exact hn
  ·
   rcases List.mem_cons.1 hx with rfl | hx
   ·
    exact hm
   ·
    cases hx)).mono ?_
 rintro e w' ⟨rfl, hb⟩
 have e : fSum (cnts [(o, n), (p, m)]) = fAdd (cnt o n) (cnt p m) := fSum_two _ _
 exact ⟨by rw [e], Below.chain (bal (Below.refl _ _) _) hb⟩
end Go.Proofs.YtjgckfcocmhnhaaGreatDoor
