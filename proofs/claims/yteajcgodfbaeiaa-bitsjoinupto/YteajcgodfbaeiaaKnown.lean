/- The contract of known: the document's own examples come out as they are told. -/
import Derived.Test.YteajcgodfbaeiaaGet
namespace Go.Proofs.Yteajcgodfbaeiaa
open Go.RowKit

/-- A conversion of a literal to bytes: the bytes that were just written out, marked. -/
theorem run_conv_lit (w : World) (cs : Array Value) (n g : Nat) (hg : g = w.heap.size) :
    (convert 22 22 (.slice (some ⟨g, 0, none⟩) n n)).run Try.prog (w.alloc (.cells cs 5)) = .ok (.slice (some ⟨g, 0, none⟩) n n) (w.alloc (.cells cs 5 (cs.size, cs.size + 1))) := by
  subst hg
  have hsh : (w.alloc (.cells cs 5)).shape? w.heap.size = some (5, cs.size) := by
    have : (w.alloc (.cells cs 5)).heap[w.heap.size]? = some (.cells cs 5) := heap_alloc_new w _
    unfold World.shape?
    rw [this]
  have hfr : (w.alloc (.cells cs 5)).freeze ⟨w.heap.size, cs.size, none⟩ 1 = w.alloc (.cells cs 5 (cs.size, cs.size + 1)) := by
    have hm : ∀ (a : Array Obj) (x : Obj) (f : Obj → Obj), (a.push x).modify a.size f = a.push (f x) := by
      intro a x f
      apply Array.ext
      · simp
      · intro i h1 h2
        simp only [Array.getElem_modify, Array.getElem_push]
        by_cases h : a.size = i
        · subst h
          simp
        · have hi : i < a.size := by simp at h1; omega
          simp [h, hi]
    unfold World.freeze
    rw [if_neg (by decide)]
    show ({ w.alloc (.cells cs 5) with heap := (w.heap.push (.cells cs 5)).modify w.heap.size _ } : World) = _
    rw [hm]
    rfl
  simp [convert, run_underlying Try.underlying22, run_underlying Try.underlying5, markStringish, hsh]
  exact hfr

/-- Bytes written out in new memory. -/
theorem Bs.lit (w : World) (l : List UInt8) (cs : Array Value) (n g : Nat) (t : TypeId) (fr : Nat × Nat) (hg : g = w.heap.size) (hn : l.length = n) (hm : n ≤ 1000) (h : cs.toList = cells l) : Bs (w.alloc (.cells cs t fr)) (some ⟨g, 0, Option.none⟩) n n l := by
  subst hg
  refine ⟨hn, Nat.le_refl _, by unfold maxLen; omega, fun _ => ⟨_, 0, rfl, fun j hj => ?_⟩⟩
  have e1 : (w.alloc (.cells cs t fr)).heap[w.heap.size]? = some (.cells cs t fr) := heap_alloc_new w _
  rw [cell_of_row _ _ _ _ _ _ e1, Nat.zero_add, ← Array.getElem?_toList, h, cells_get (by omega)]
theorem Bs.nil (w : World) : Bs w Option.none 0 0 [] := ⟨rfl, Nat.le_refl _, by unfold maxLen; omega, fun h => by omega⟩

theorem join3w {W : World} {g : Nat} {a0 a1 a2 : Option Addr} {n0 c0 n1 c1 n2 c2 : Nat} {l0 l1 l2 : List UInt8} (hc0 : W.cell? ⟨g, 0, none⟩ = some (.slice a0 n0 c0)) (hc1 : W.cell? ⟨g, 1, none⟩ = some (.slice a1 n1 c1)) (hc2 : W.cell? ⟨g, 2, none⟩ = some (.slice a2 n2 c2))
    (h0 : Bs W a0 n0 c0 l0) (h1 : Bs W a1 n1 c1 l1) (h2 : Bs W a2 n2 c2 l2) (hB : n0 + n1 + n2 ≤ 140737488355328) :
    Calls Try.prog 20 #[.slice (some ⟨g, 0, none⟩) 3 3] W fun e w' => ∃ ao m cap, e = .returned (.slice ao m cap) ∧ Bs w' ao m cap (l0 ++ (l1 ++ l2)) ∧ Below W.heap.size W w' := by
  refine (join_any _ 3 3 [l0, l1, l2] _ ⟨rfl, fun _ => ⟨g, 0, rfl, fun j hj => ?_⟩⟩ (by decide) (by simp only [List.flatten_cons, List.flatten_nil, List.append_nil, List.length_append]; rw [h0.1, h1.1, h2.1]; omega)).mono ?_
  · have h3 : j = 0 ∨ j = 1 ∨ j = 2 := by omega
    rcases h3 with rfl | rfl | rfl
    · exact ⟨_, _, _, hc0, h0⟩
    · exact ⟨_, _, _, hc1, h1⟩
    · exact ⟨_, _, _, hc2, h2⟩
  · rintro e w' ⟨ao, m, cap, he, hb, hbel⟩
    exact ⟨ao, m, cap, he, by simpa using hb, hbel⟩

def digits : List UInt8 := [49, 50, 51, 52, 53, 54, 55, 56, 57]
theorem crc_digits : crc digits = 3421780262 := by decide +kernel
theorem sum_digits (ao : Option Addr) (w : World) (hb : Bs w ao 9 9 digits) :
    Calls Try.prog 12 #[.slice ao 9 9] w fun e w' => e = .returned (.int .u32 3421780262) ∧ Below w.heap.size w w' := by
  refine (sum_any ao 9 9 digits w hb).mono ?_
  rintro e w' ⟨rfl, rfl⟩
  exact ⟨by rw [crc_digits]; rfl, Below.refl _ _⟩
theorem get_123 (ao : Option Addr) (w : World) (hb : Bs w ao 3 3 [1, 2, 3]) :
    Calls Try.prog 10 #[.slice ao 3 3, .int .i64 2] w fun e w' => ∃ ao cap, e = .returned (.tuple #[.int .u64 513, .slice ao 1 cap, .int .i64 0]) ∧ Below w.heap.size w w' := by
  refine (get_ok ao 3 3 2 [1, 2, 3] w hb (by decide) (by decide)).mono ?_
  rintro e w' ⟨ao', m, cap, rfl, hb', hbel⟩
  obtain rfl : 1 = m := hb'.1
  exact ⟨ao', cap, rfl, hbel⟩
theorem put_258 (w : World) :
    Calls Try.prog 14 #[.slice none 0 0, .int .u64 258, .int .i64 3] w fun e w' => ∃ ao m cap, e = .returned (.slice ao m cap) ∧ Bs w' ao m cap [2, 1, 0] ∧ Below w.heap.size w w' :=
  put_any none 0 0 258 3 [] w (Bs.nil w) (by decide)

set_option maxHeartbeats 1000000 in
theorem known_any (w : World) : Calls Try.prog 9 #[] w fun e w' => e = .returned (.bool true) ∧ Below w.heap.size w w' := by
  have hconv := run_conv_lit
  go_enter Try.func9, Try.ntmps9
  go_wp2_with fail
  refine (get_123 _ _ (Bs.lit w [1, 2, 3] _ 3 _ 5 (0, 0) rfl rfl (by decide) rfl)).mono ?_
  rintro e w1 ⟨ao1, c1, rfl, hbel1⟩
  have hbel1' := Below.chain (bal (Below.refl _ _) _) hbel1
  clear hbel1
  go_wp2_with fail
  refine (sum_digits _ _ (Bs.lit w1 digits _ 9 _ 5 _ rfl rfl (by decide) rfl)).mono ?_
  rintro e w2 ⟨rfl, hbelx⟩
  have hbel2 := Below.chain (bal hbel1' _) hbelx
  clear hbel1' hbelx
  go_wp2_with fail
  have h0 := Bs.lit w2 [97] #[.int .u8 97] 1 _ 5 (1, 2) rfl rfl (by decide) rfl
  have h2 := Bs.lit (w2.alloc (.cells #[.int .u8 97] 5 (1, 2))) [98, 99] #[.int .u8 98, .int .u8 99] 2 (w2.heap.size + 1) 5 (2, 3) (by simp) rfl (by decide) rfl
  refine (join3w (a0 := some ⟨w2.heap.size, 0, none⟩) (n0 := 1) (c0 := 1) (a1 := none) (n1 := 0) (c1 := 0) (a2 := some ⟨w2.heap.size + 1, 0, none⟩) (n2 := 2) (c2 := 2) ?_ ?_ ?_ ((h0.later (bal (Below.refl _ _) _)).later (bal (Below.refl _ _) _)) (Bs.nil _) (h2.later (bal (Below.refl _ _) _)) (by decide)).mono ?_
  · simp [go_sem]
  · simp [go_sem]
  · simp [go_sem]
  rintro e w3 ⟨ao3, m3, c3, rfl, hb3, hbel3⟩
  have hbel4 := Below.chain (bal (bal (bal hbel2 _) _) _) hbel3
  have hs3 := conv_string hb3
  clear hbel3
  go_wp2_with fail
  refine (put_258 _).mono ?_
  rintro e w4 ⟨ao4, m4, c4, rfl, hb4, hbel5⟩
  have hbel6 := Below.chain hbel4 hbel5
  have hs4 := conv_string hb4
  clear hbel5
  go_wp2
  go_ret
  exact ⟨rfl, hbel6⟩
end Go.Proofs.Yteajcgodfbaeiaa
