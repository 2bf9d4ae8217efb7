/- The contracts of Put and Text: what is laid behind bytes. -/
import Derived.Test.YteajcgodfbaeiaaJoin
namespace Go.Proofs.Yteajcgodfbaeiaa
open Go.RowKit

theorem Bss.one {w : World} {a0 : Option Addr} {n0 c0 : Nat} {l0 : List UInt8} (h0 : Bs w a0 n0 c0 l0) (t : TypeId) :
    Bss (w.alloc (.cells #[.slice a0 n0 c0] t)) (some ⟨w.heap.size, 0, none⟩) 1 [l0] := by
  have hb : Below w.heap.size w (w.alloc (.cells #[.slice a0 n0 c0] t)) := (Below.refl _ _).alloc (Nat.le_refl _) _
  refine ⟨rfl, fun _ => ⟨_, 0, rfl, fun j hj => ?_⟩⟩
  obtain rfl : j = 0 := by omega
  exact ⟨_, _, _, (World.cell?_alloc_new w _ _ 0), h0.later hb⟩
theorem Bss.two {w : World} {a0 a1 : Option Addr} {n0 c0 n1 c1 : Nat} {l0 l1 : List UInt8} (h0 : Bs w a0 n0 c0 l0) (h1 : Bs w a1 n1 c1 l1) (t : TypeId) :
    Bss (w.alloc (.cells #[.slice a0 n0 c0, .slice a1 n1 c1] t)) (some ⟨w.heap.size, 0, none⟩) 2 [l0, l1] := by
  have hb : Below w.heap.size w (w.alloc (.cells #[.slice a0 n0 c0, .slice a1 n1 c1] t)) := (Below.refl _ _).alloc (Nat.le_refl _) _
  refine ⟨rfl, fun _ => ⟨_, 0, rfl, fun j hj => ?_⟩⟩
  have h2 : j = 0 ∨ j = 1 := by omega
  rcases h2 with rfl | rfl
  · exact ⟨_, _, _, (World.cell?_alloc_new w _ _ 0), h0.later hb⟩
  · exact ⟨_, _, _, (World.cell?_alloc_new w _ _ 1), h1.later hb⟩
theorem Bss.three {w : World} {a0 a1 a2 : Option Addr} {n0 c0 n1 c1 n2 c2 : Nat} {l0 l1 l2 : List UInt8} (h0 : Bs w a0 n0 c0 l0) (h1 : Bs w a1 n1 c1 l1) (h2 : Bs w a2 n2 c2 l2) (t : TypeId) :
    Bss (w.alloc (.cells #[.slice a0 n0 c0, .slice a1 n1 c1, .slice a2 n2 c2] t)) (some ⟨w.heap.size, 0, none⟩) 3 [l0, l1, l2] := by
  have hb : Below w.heap.size w (w.alloc (.cells #[.slice a0 n0 c0, .slice a1 n1 c1, .slice a2 n2 c2] t)) := (Below.refl _ _).alloc (Nat.le_refl _) _
  refine ⟨rfl, fun _ => ⟨_, 0, rfl, fun j hj => ?_⟩⟩
  have h3 : j = 0 ∨ j = 1 ∨ j = 2 := by omega
  rcases h3 with rfl | rfl | rfl
  · exact ⟨_, _, _, (World.cell?_alloc_new w _ _ 0), h0.later hb⟩
  · exact ⟨_, _, _, (World.cell?_alloc_new w _ _ 1), h1.later hb⟩
  · exact ⟨_, _, _, (World.cell?_alloc_new w _ _ 2), h2.later hb⟩

theorem join1 {w : World} {a0 : Option Addr} {n0 c0 : Nat} {l0 : List UInt8} (h0 : Bs w a0 n0 c0 l0) (t : TypeId) (hB : n0 ≤ 140737488355328) :
    Calls Try.prog 20 #[.slice (some ⟨w.heap.size, 0, none⟩) 1 1] (w.alloc (.cells #[.slice a0 n0 c0] t)) fun e w' => ∃ ao m cap, e = .returned (.slice ao m cap) ∧ Bs w' ao m cap l0 ∧ Below w.heap.size w w' := by
  refine (join_any _ 1 1 [l0] _ (Bss.one h0 t) (by decide) (by simp only [List.flatten_cons, List.flatten_nil, List.append_nil]; rw [h0.1]; exact hB)).mono ?_
  rintro e w' ⟨ao, m, cap, he, hb, hbel⟩
  exact ⟨ao, m, cap, he, by simpa using hb, Below.chain ((Below.refl _ _).alloc (Nat.le_refl _) _) hbel⟩
theorem join2 {w : World} {a0 a1 : Option Addr} {n0 c0 n1 c1 : Nat} {l0 l1 : List UInt8} (h0 : Bs w a0 n0 c0 l0) (h1 : Bs w a1 n1 c1 l1) (t : TypeId) (hB : n0 + n1 ≤ 140737488355328) :
    Calls Try.prog 20 #[.slice (some ⟨w.heap.size, 0, none⟩) 2 2] (w.alloc (.cells #[.slice a0 n0 c0, .slice a1 n1 c1] t)) fun e w' => ∃ ao m cap, e = .returned (.slice ao m cap) ∧ Bs w' ao m cap (l0 ++ l1) ∧ Below w.heap.size w w' := by
  refine (join_any _ 2 2 [l0, l1] _ (Bss.two h0 h1 t) (by decide) (by simp only [List.flatten_cons, List.flatten_nil, List.append_nil, List.length_append]; rw [h0.1, h1.1]; exact hB)).mono ?_
  rintro e w' ⟨ao, m, cap, he, hb, hbel⟩
  exact ⟨ao, m, cap, he, by simpa using hb, Below.chain ((Below.refl _ _).alloc (Nat.le_refl _) _) hbel⟩
theorem join3 {w : World} {a0 a1 a2 : Option Addr} {n0 c0 n1 c1 n2 c2 : Nat} {l0 l1 l2 : List UInt8} (h0 : Bs w a0 n0 c0 l0) (h1 : Bs w a1 n1 c1 l1) (h2 : Bs w a2 n2 c2 l2) (t : TypeId) (hB : n0 + n1 + n2 ≤ 140737488355328) :
    Calls Try.prog 20 #[.slice (some ⟨w.heap.size, 0, none⟩) 3 3] (w.alloc (.cells #[.slice a0 n0 c0, .slice a1 n1 c1, .slice a2 n2 c2] t)) fun e w' => ∃ ao m cap, e = .returned (.slice ao m cap) ∧ Bs w' ao m cap (l0 ++ (l1 ++ l2)) ∧ Below w.heap.size w w' := by
  refine (join_any _ 3 3 [l0, l1, l2] _ (Bss.three h0 h1 h2 t) (by decide) (by simp only [List.flatten_cons, List.flatten_nil, List.append_nil, List.length_append]; rw [h0.1, h1.1, h2.1]; omega)).mono ?_
  rintro e w' ⟨ao, m, cap, he, hb, hbel⟩
  exact ⟨ao, m, cap, he, by simpa using hb, Below.chain ((Below.refl _ _).alloc (Nat.le_refl _) _) hbel⟩

theorem put_any (ao : Option Addr) (n cap x : Nat) (bytes : Int) (l : List UInt8) (w : World) (hb : Bs w ao n cap l) (hB : n ≤ 1000000) :
    Calls Try.prog 14 #[.slice ao n cap, .int .u64 x, .int .i64 bytes] w fun e w' => ∃ ao m cap, e = .returned (.slice ao m cap) ∧ Bs w' ao m cap (l ++ low x (held bytes)) ∧ Below w.heap.size w w' := by
  have hh := held_le bytes
  go_enter Try.func14, Try.ntmps14
  go_wp2_with (go_at_call 21; refine (held_any bytes _).mono ?_; rintro e w' ⟨rfl, rfl⟩)
  go_wp2_with (go_at_call 24; refine (lowest_any x (held bytes) hh _).mono ?_; rintro e w1 ⟨ao1, rfl, hb1, hbel⟩)
  go_wp2_with fail
  refine (join2 (hb.later hbel) hb1 22 (by omega)).mono ?_
  rintro e w2 ⟨ao2, m2, c2, rfl, hb2, hbel2⟩
  go_wp2
  go_ret
  exact ⟨_, _, _, rfl, hb2, Below.chain hbel hbel2⟩

/-- The bytes of a string, in new memory. -/
theorem conv_bytes (w : World) (s : ByteArray) (hs : s.size ≤ 1000000) : ∃ ao cap w', (convert 9 22 (.string s)).run Try.prog w = .ok (.slice ao s.size cap) w' ∧ Bs w' ao s.size cap s.data.toList ∧ Below w.heap.size w w' := by
  refine ⟨_, _, _, run_bytes_of_string w 9 22 5 s Try.underlying9 Try.underlying22 Try.underlying5, ?_, ((Below.refl _ _).drew).alloc (Nat.le_refl _) _⟩
  have hlen : s.data.toList.length = s.size := by rw [Array.length_toList]; rfl
  have hge := grownCap_ge w s.size 0 5
  refine ⟨hlen, hge, grownCap_le_maxLen w s.size 0 5 (by unfold maxLen; omega), fun _ => ⟨w.heap.size, 0, rfl, fun j hj => ?_⟩⟩
  have e1 : (w.drew.alloc (.cells (bytesRow s (grownCap w s.size 0 5)) 5 ((bytesRow s (grownCap w s.size 0 5)).size, (bytesRow s (grownCap w s.size 0 5)).size + 1))).heap[w.heap.size]? = some (.cells (bytesRow s (grownCap w s.size 0 5)) 5 ((bytesRow s (grownCap w s.size 0 5)).size, (bytesRow s (grownCap w s.size 0 5)).size + 1)) := heap_alloc_new w.drew _
  have hj' : j < s.data.size := hj
  rw [cell_of_row _ _ _ _ _ _ e1, Nat.zero_add]
  unfold bytesRow
  rw [Array.getElem?_append_left (by simpa using hj')]
  simp [List.getD]
  exact ⟨s.data[j], Array.getElem?_eq_getElem hj', by rw [Array.getElem?_eq_getElem hj']; rfl⟩

theorem str_len (s : ByteArray) : s.data.toList.length = s.size := by rw [Array.length_toList]; rfl

theorem text_any (ao : Option Addr) (n cap : Nat) (s : ByteArray) (l : List UInt8) (w : World) (hb : Bs w ao n cap l) (hB : n ≤ 1000000) (hs : s.size ≤ 1000) :
    Calls Try.prog 16 #[.slice ao n cap, .string s] w fun e w' => ∃ ao m cap, e = .returned (.slice ao m cap) ∧ Bs w' ao m cap (l ++ (low s.size 2 ++ s.data.toList)) ∧ Below w.heap.size w w' := by
  go_enter Try.func16, Try.ntmps16
  go_wp2_with fail
  refine (lowest_any s.size 2 (by decide) _).mono ?_
  rintro e w1 ⟨ao1, rfl, hb1, hbel⟩
  obtain ⟨ao2, c2, w2, hrun, hb2, hbel2⟩ := conv_bytes w1 s (by omega)
  go_wp2_with fail
  refine (join3 ((hb.later hbel).later hbel2) (hb1.later hbel2) hb2 22 (by omega)).mono ?_
  rintro e w3 ⟨ao3, m3, c3, rfl, hb3, hbel3⟩
  go_wp2
  go_ret
  exact ⟨_, _, _, rfl, hb3, Below.chain (Below.chain hbel hbel2) hbel3⟩
end Go.Proofs.Yteajcgodfbaeiaa
