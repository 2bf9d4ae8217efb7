
/- same, big: each for every slice. -/
import Derived.Test.YtideieolgjhbiaaGreatDoorPairs
namespace Go.Proofs.YtideieolgjhbiaaGreatDoor
open Go.RowKit

theorem fields35 : Tryz.prog.underlying 44 = some (.struct (Tryz.prog.fieldsOf 44)) := by kernel_rfl
theorem stood35 : Tryz.prog.stoodInHeld 44 = false := by kernel_rfl
theorem guard35 : Tryz.prog.eqGuardType Tryz.prog.depth 44 = false := by kernel_rfl
theorem eqIn_pair (p q : Pr) (w : World) : (Op.equalIn 10000 44 (.agg #[tx p.1, tx p.2]) (.agg #[tx q.1, tx q.2])).run Tryz.prog w = .ok (decide (p = q)) w := by
  have u9 := Tryz.underlying9
  have a9 := Tryz.isAgg9
  have z9 := Tryz.sizeOf9
  rw [show (10000 : Nat) = 9999 + 1 from rfl, run_equalIn_agg w 9999 44 _ _ fields35 stood35]
  simp only [Program.fieldsOf, Tryz.underlying44]
  go_simp
  obtain ⟨a, b⟩ := p
  obtain ⟨c, d⟩ := q
  by_cases h1 : a = c <;> by_cases h2 : b = d <;> simp [h1, h2]
theorem neq_pair (p q : Pr) (w : World) : (binOp .neq 44 (.agg #[tx p.1, tx p.2]) (.agg #[tx q.1, tx q.2])).run Tryz.prog w = .ok (.bool (!decide (p = q))) w := by
  rw [run_neq_struct, eqIn_pair]
  rfl
theorem guard_pair (x y : Operand) (xs ys : Array Value) (w : World) : (eqGuard .neq 44 x y (.agg xs) (.agg ys)).run Tryz.prog w = .ok () w := run_eqGuard_agg w .neq 44 x y xs ys guard35

def sameB (a b : List Pr) : Bool := decide (a = b)
theorem same_len {a b : List Pr} (h : a.length ≠ b.length) : sameB a b = false := by
  unfold sameB
  exact decide_eq_false fun e => h (by rw [e])
theorem same_not {a b : List Pr} {j : Nat} (h : a.getD j ([], []) ≠ b.getD j ([], [])) : sameB a b = false := by
  unfold sameB
  exact decide_eq_false fun e => h (by rw [e])
theorem same_all {a b : List Pr} (hl : a.length = b.length) (h : a.take a.length = b.take a.length) : sameB a b = true := by
  unfold sameB
  rw [List.take_length, hl, List.take_length] at h
  exact decide_eq_true h
theorem take_next {a b : List Pr} {j : Nat} (ha : j < a.length) (hb : j < b.length) (h : a.take j = b.take j) (e : a.getD j ([], []) = b.getD j ([], [])) : a.take (j + 1) = b.take (j + 1) := by
  rw [getD_at ha, getD_at hb] at e
  rw [List.take_succ_eq_append_getElem ha, List.take_succ_eq_append_getElem hb, h, e]
theorem below_drewN {B : Nat} {a w : World} (h : Below B a w) (k : Nat) : Below B a (w.drewN k) := ⟨h.os, h.tape, h.output, h.size, h.block⟩

set_option maxHeartbeats 1000000 in
theorem same_any (xa : Option Addr) (n c : Nat) (a : List Pr) (ya : Option Addr) (m d : Nat) (b : List Pr) (w : World) (hn : n ≤ 9223372036854775807) (hm : m ≤ 9223372036854775807) (hx : Ps w xa n a) (hy : Ps w ya m b) :
    Calls Tryz.prog 16 #[.slice xa n c, .slice ya m d] w fun e w' => e = .returned (.bool (sameB a b)) ∧ ∃ k, w' = w.drewN k := by
  obtain ⟨hla, hca⟩ := hx
  obtain ⟨hlb, hcb⟩ := hy
  have HA : Hid (a.length = n) := hla
  have HB : Hid (b.length = m) := hlb
  clear hla hlb
  by_cases hnm : n = m
  · subst hnm
    have hnn : ((n : Int) != n) = false := by simp
    go_enter Tryz.func16, Tryz.ntmps16
    go_wp2
    go_loopw [5] (fun i wr => ∃ j k : Nat, j ≤ n ∧ i = .int .i64 j ∧ Hid (a.take j = b.take j) ∧ wr = w.drewN k) (fun i _ => n - (intOf i).toNat)
    case atStart => exact ⟨0, 0, by omega, rfl, rfl, rfl⟩
    case round =>
      obtain ⟨j, k, hj, rfl, ht, rfl⟩ := hrel
      by_cases hlt : j < n
      · obtain ⟨b1, o1, rfl, h1⟩ := hca (by omega)
        obtain ⟨b2, o2, rfl, h2⟩ := hcb (by omega)
        obtain ⟨c10, c11⟩ := h1 j hlt
        obtain ⟨c20, c21⟩ := h2 j hlt
        have HN : Hid (a.getD j ([], []) = b.getD j ([], []) → a.take (j + 1) = b.take (j + 1)) := take_next (by rw [HA.out]; exact hlt) (by rw [HB.out]; exact hlt) ht.out
        have HF : Hid (a.getD j ([], []) ≠ b.getD j ([], []) → sameB a b = false) := same_not
        clear h1 h2 hca hcb
        generalize a.getD j ([], []) = p at *
        generalize b.getD j ([], []) = q at *
        have hne := neq_pair p q
        have hgd := guard_pair
        by_cases hpq : p = q
        · have HT := HN.out hpq
          have HT' : Hid (a.take (j + 1) = b.take (j + 1)) := HT
          have hd : decide (p = q) = true := decide_eq_true hpq
          rw [hd] at hne
          clear HN HF HT hpq hd
          go_wp2
          go_quiet (fail)
          go_wp2
          go_roundw
          case rel => exact ⟨j + 1, _, by omega, by go_num, HT', rfl⟩
          case measure => simp [intOf]; omega
        · have HT' : Hid (sameB a b = false) := HF.out hpq
          have hd : decide (p = q) = false := decide_eq_false hpq
          rw [hd] at hne
          clear HN HF hpq hd
          go_wp2
          go_quiet (fail)
          go_wp2
          go_ret
          exact ⟨by rw [HT'.out]; rfl, _, World.drewN_drewN _ _ _⟩
      · have HT' : Hid (sameB a b = true) := same_all (by rw [HA.out, HB.out]) (by rw [HA.out, show n = j by omega]; exact ht.out)
        go_wp2
        go_ret
        exact ⟨by rw [HT'.out]; rfl, _, rfl⟩
  · have hnn : ((n : Int) != m) = true := by rw [bne_iff_ne]; omega
    have HT' : Hid (sameB a b = false) := same_len (by rw [HA.out, HB.out]; exact hnm)
    go_enter Tryz.func16, Tryz.ntmps16
    go_wp2
    go_ret
    exact ⟨by rw [HT'.out]; rfl, 0, rfl⟩

def bigP (p : Pr) : Bool := decide (100 < p.1.length) || decide (100 < p.2.length)
def bigB (l : List Pr) : Bool := l.any bigP || decide (20 < l.length)
theorem big_hit {l : List Pr} {j : Nat} (hj : j < l.length) (h : bigP (l.getD j ([], [])) = true) : bigB l = true := by
  unfold bigB
  rw [getD_at hj] at h
  rw [List.any_eq_true.2 ⟨_, List.getElem_mem hj, h⟩]
  rfl
theorem big_next {l : List Pr} {j : Nat} (hj : j < l.length) (ha : (l.take j).any bigP = false) (h : bigP (l.getD j ([], [])) = false) : (l.take (j + 1)).any bigP = false := by
  rw [getD_at hj] at h
  rw [List.take_succ_eq_append_getElem hj, List.any_append, ha]
  simp [h]
theorem big_all {l : List Pr} {j : Nat} (hj : l.length ≤ j) (ha : (l.take j).any bigP = false) : bigB l = decide (20 < l.length) := by
  rw [List.take_of_length_le hj] at ha
  unfold bigB
  rw [ha]
  rfl
theorem big_not {l : List Pr} (h : bigB l = false) : l.length ≤ 20 ∧ ∀ p ∈ l, p.1.length ≤ 100 ∧ p.2.length ≤ 100 := by
  unfold bigB at h
  rw [Bool.or_eq_false_iff] at h
  refine ⟨by simpa using h.2, fun p hp => ?_⟩
  have := List.any_eq_false.1 h.1 p hp
  unfold bigP at this
  simp at this
  omega
end Go.Proofs.YtideieolgjhbiaaGreatDoor
