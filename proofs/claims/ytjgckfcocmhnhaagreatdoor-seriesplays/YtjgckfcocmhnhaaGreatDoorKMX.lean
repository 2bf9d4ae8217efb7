/- Texts that the others lean on. -/
import Derived.Test.YtjgckfcocmhnhaaGreatDoorKMW
import Derived.Test.YtjgckfcocmhnhaaGreatDoorKMT
import Derived.Test.YtjgckfcocmhnhaaGreatDoorKMS
import Derived.OwnWalk
namespace Go.Proofs.YtjgckfcocmhnhaaGreatDoor.Sr
open Go.RowKit Rn
/-- The mean, the difference, the rise, a tick's rise; whether they are told. -/
def avgT (l : List Smp) : Bool × Int × Bool := if l.isEmpty = true then (false, 0, false) else (ov (avgP l), nn (avgP l), true)
def dltT (l : List Smp) : Bool × Int × Bool := if l.length < 2 then (false, 0, false) else (ov (dltP l), nn (dltP l), true)
def incT (l : List Smp) : Bool × Int × Bool := if l.length < 2 then (false, 0, false) else (ov (incP l), nn (incP l), true)
def rteT (l : List Smp) (k : Int) : Bool × Int × Bool := if l.length < 2 then (false, 0, false) else (ov (rteP l k), nn (rteP l k), true)
theorem avg_T (b : Nat) (l : List Smp) (k t : Int) (W : World) (h : St W b l k t) : Calls Tryz.prog 92 #[.pointer (some ⟨b, 0, none⟩)] W fun e w' => e = .returned (.tuple #[.agg #[.bool (avgT l).1, .int .i64 (avgT l).2.1], .bool (avgT l).2.2]) ∧ Below W.heap.size W w' := by
 have := Rn.avg_any b l k t W h.m h.f.rg
 unfold avgT
 split at this <;> rename_i h1
 ·
  rw [if_pos h1]; exact this
 ·
  rw [if_neg h1]; exact this
theorem dlt_T (b : Nat) (l : List Smp) (k t : Int) (W : World) (h : St W b l k t) : Calls Tryz.prog 96 #[.pointer (some ⟨b, 0, none⟩)] W fun e w' => e = .returned (.tuple #[.agg #[.bool (dltT l).1, .int .i64 (dltT l).2.1], .bool (dltT l).2.2]) ∧ Below W.heap.size W w' := by
 have := Rn.delta_any b l k t W h.m h.f.rg
 unfold dltT
 split at this <;> rename_i h1
 ·
  rw [if_pos h1]; exact this
 ·
  rw [if_neg h1]; exact this
theorem inc_T (ao : Option Addr) (cap : Nat) (l : List Smp) (W : World) (hn : l.length ≤ 100) (hs : Ms W ao l.length l) (hr : ∀ s ∈ l, R64 s.2.2) : Calls Tryz.prog 94 #[.slice ao l.length cap] W fun e w' => e = .returned (.tuple #[.agg #[.bool (incT l).1, .int .i64 (incT l).2.1], .bool (incT l).2.2]) ∧ Below W.heap.size W w' := by
 have := of_row ao l.length cap l W hn hs hr
 unfold incT
 split at this <;> rename_i h1
 ·
  rw [if_pos h1]; exact this
 ·
  rw [if_neg h1]; exact this
theorem rte_T (b : Nat) (l : List Smp) (k t : Int) (W : World) (h : St W b l k t) : Calls Tryz.prog 95 #[pv b k t] W fun e w' => e = .returned (.tuple #[.agg #[.bool (rteT l k).1, .int .i64 (rteT l k).2.1], .bool (rteT l k).2.2]) ∧ Below W.heap.size W w' := by
 unfold rteT
 by_cases h1 : l.length < 2
 ·
  rw [if_pos h1]; exact rate_no b l k t W h h1
 ·
  rw [if_neg h1]; exact rate_yes b l k t W h h1
set_option maxHeartbeats 4000000 in
set_option maxRecDepth 100000 in
theorem tell_avg (rb : Nat) (l : List Smp) (k t : Int) (w : World) (h : St w rb l k t) :
  Calls Tryz.prog 55 #[pv rb k t, .string ⟨#[97, 118, 103]⟩] w fun e w' => e = .returned (.tuple #[.agg #[.bool (avgT l).1, .int .i64 (avgT l).2.1], .bool (avgT l).2.2]) ∧ Below w.heap.size w w' := by
 have hc := fun W hW => avg_T rb l k t W hW
 have hb0 := bal (bal (Below.refl _ w) (.cells #[.pointer (some ⟨rb, 0, none⟩), .int .i64 k, .int .i64 t] 109)) (.cells #[.bool false, .int .i64 0] 33)
 have hx := (BoxV.new w (.pointer (some ⟨rb, 0, none⟩)) (.int .i64 k) (.int .i64 t) 109).later (bal (Below.refl _ _) (.cells #[.bool false, .int .i64 0] 33))
 have hy := Box.new (w.alloc (.cells #[.pointer (some ⟨rb, 0, none⟩), .int .i64 k, .int .i64 t] 109)) false 0
 have hz : (w.alloc (.cells #[.pointer (some ⟨rb, 0, none⟩), .int .i64 k, .int .i64 t] 109)).heap.size = w.heap.size + 1 := by simp
 rw [hz] at hy
 have HS0 : Hid (St _ rb l k t) := h.later hb0
 clear hz
 generalize (avgT l) = a at *
 obtain ⟨a1, a2, a3⟩ := a
 obtain ⟨cx0, cx1, cx2, _, _, _⟩ := id hx
 clear h
 go_enter Tryz.func55, Tryz.ntmps55
 go_wp2_with fail
 generalize (w.alloc (.cells #[.pointer (some ⟨rb, 0, none⟩), .int .i64 k, .int .i64 t] 109)).alloc (.cells #[.bool false, .int .i64 0] 33) = w0 at *
 refine (hc _ HS0.out).mono ?_
 rintro e w1 ⟨rfl, hb1⟩
 clear hc
 obtain ⟨c0, c1, f0, f1⟩ := id (hy.later hb1)
 obtain ⟨p0, p1⟩ := Box.put33 (hy.later hb1) a1 a2
 go_wp2
 exact bodyPost_ret (v := .tuple #[.agg #[.bool a1, .int .i64 a2], .bool a3]) (by simp [results, Tryz.results55, go_sem, p0, p1]) rfl ⟨rfl, put2 (Below.chain hb0 hb1) (by omega) _ _⟩
set_option maxHeartbeats 4000000 in
set_option maxRecDepth 100000 in
theorem tell_delta (rb : Nat) (l : List Smp) (k t : Int) (w : World) (h : St w rb l k t) :
  Calls Tryz.prog 55 #[pv rb k t, .string ⟨#[100, 101, 108, 116, 97]⟩] w fun e w' => e = .returned (.tuple #[.agg #[.bool (dltT l).1, .int .i64 (dltT l).2.1], .bool (dltT l).2.2]) ∧ Below w.heap.size w w' := by
 have hc := fun W hW => dlt_T rb l k t W hW
 have hb0 := bal (bal (Below.refl _ w) (.cells #[.pointer (some ⟨rb, 0, none⟩), .int .i64 k, .int .i64 t] 109)) (.cells #[.bool false, .int .i64 0] 33)
 have hx := (BoxV.new w (.pointer (some ⟨rb, 0, none⟩)) (.int .i64 k) (.int .i64 t) 109).later (bal (Below.refl _ _) (.cells #[.bool false, .int .i64 0] 33))
 have hy := Box.new (w.alloc (.cells #[.pointer (some ⟨rb, 0, none⟩), .int .i64 k, .int .i64 t] 109)) false 0
 have hz : (w.alloc (.cells #[.pointer (some ⟨rb, 0, none⟩), .int .i64 k, .int .i64 t] 109)).heap.size = w.heap.size + 1 := by simp
 rw [hz] at hy
 have HS0 : Hid (St _ rb l k t) := h.later hb0
 clear hz
 generalize (dltT l) = a at *
 obtain ⟨a1, a2, a3⟩ := a
 obtain ⟨cx0, cx1, cx2, _, _, _⟩ := id hx
 clear h
 go_enter Tryz.func55, Tryz.ntmps55
 go_wp2_with fail
 generalize (w.alloc (.cells #[.pointer (some ⟨rb, 0, none⟩), .int .i64 k, .int .i64 t] 109)).alloc (.cells #[.bool false, .int .i64 0] 33) = w0 at *
 refine (hc _ HS0.out).mono ?_
 rintro e w1 ⟨rfl, hb1⟩
 clear hc
 obtain ⟨c0, c1, f0, f1⟩ := id (hy.later hb1)
 obtain ⟨p0, p1⟩ := Box.put33 (hy.later hb1) a1 a2
 go_wp2
 exact bodyPost_ret (v := .tuple #[.agg #[.bool a1, .int .i64 a2], .bool a3]) (by simp [results, Tryz.results55, go_sem, p0, p1]) rfl ⟨rfl, put2 (Below.chain hb0 hb1) (by omega) _ _⟩
set_option maxHeartbeats 4000000 in
set_option maxRecDepth 100000 in
theorem tell_rate (rb : Nat) (l : List Smp) (k t : Int) (w : World) (h : St w rb l k t) :
  Calls Tryz.prog 55 #[pv rb k t, .string ⟨#[114, 97, 116, 101]⟩] w fun e w' => e = .returned (.tuple #[.agg #[.bool (rteT l k).1, .int .i64 (rteT l k).2.1], .bool (rteT l k).2.2]) ∧ Below w.heap.size w w' := by
 have hc := fun W hW => rte_T rb l k t W hW
 have hb0 := bal (bal (Below.refl _ w) (.cells #[.pointer (some ⟨rb, 0, none⟩), .int .i64 k, .int .i64 t] 109)) (.cells #[.bool false, .int .i64 0] 33)
 have hx := (BoxV.new w (.pointer (some ⟨rb, 0, none⟩)) (.int .i64 k) (.int .i64 t) 109).later (bal (Below.refl _ _) (.cells #[.bool false, .int .i64 0] 33))
 have hy := Box.new (w.alloc (.cells #[.pointer (some ⟨rb, 0, none⟩), .int .i64 k, .int .i64 t] 109)) false 0
 have hz : (w.alloc (.cells #[.pointer (some ⟨rb, 0, none⟩), .int .i64 k, .int .i64 t] 109)).heap.size = w.heap.size + 1 := by simp
 rw [hz] at hy
 have HS0 : Hid (St _ rb l k t) := h.later hb0
 clear hz
 generalize (rteT l k) = a at *
 obtain ⟨a1, a2, a3⟩ := a
 obtain ⟨cx0, cx1, cx2, _, _, _⟩ := id hx
 clear h
 go_enter Tryz.func55, Tryz.ntmps55
 go_wp2_with fail
 generalize (w.alloc (.cells #[.pointer (some ⟨rb, 0, none⟩), .int .i64 k, .int .i64 t] 109)).alloc (.cells #[.bool false, .int .i64 0] 33) = w0 at *
 refine (hc _ HS0.out).mono ?_
 rintro e w1 ⟨rfl, hb1⟩
 clear hc
 obtain ⟨c0, c1, f0, f1⟩ := id (hy.later hb1)
 obtain ⟨p0, p1⟩ := Box.put33 (hy.later hb1) a1 a2
 go_wp2
 exact bodyPost_ret (v := .tuple #[.agg #[.bool a1, .int .i64 a2], .bool a3]) (by simp [results, Tryz.results55, go_sem, p0, p1]) rfl ⟨rfl, put2 (Below.chain hb0 hb1) (by omega) _ _⟩
set_option maxHeartbeats 4000000 in
set_option maxRecDepth 100000 in
theorem tell_min (rb : Nat) (l : List Smp) (k t : Int) (w : World) (h : St w rb l k t) :
  Calls Tryz.prog 55 #[pv rb k t, .string ⟨#[109, 105, 110]⟩] w fun e w' => e = .returned (.tuple #[.agg #[.bool (Ex.bst false (addAll k t [] l)).2.1, .int .i64 (Ex.bst false (addAll k t [] l)).2.2], .bool (!(addAll k t [] l).isEmpty)]) ∧ Below w.heap.size w w' := by
 have hc := fun W hW => best_any rb l k t false W hW
 have hb0 := bal (bal (Below.refl _ w) (.cells #[.pointer (some ⟨rb, 0, none⟩), .int .i64 k, .int .i64 t] 109)) (.cells #[.bool false, .int .i64 0] 33)
 have hx := (BoxV.new w (.pointer (some ⟨rb, 0, none⟩)) (.int .i64 k) (.int .i64 t) 109).later (bal (Below.refl _ _) (.cells #[.bool false, .int .i64 0] 33))
 have hy := Box.new (w.alloc (.cells #[.pointer (some ⟨rb, 0, none⟩), .int .i64 k, .int .i64 t] 109)) false 0
 have hz : (w.alloc (.cells #[.pointer (some ⟨rb, 0, none⟩), .int .i64 k, .int .i64 t] 109)).heap.size = w.heap.size + 1 := by simp
 rw [hz] at hy
 have HS0 : Hid (St _ rb l k t) := h.later hb0
 clear hz
 generalize (Ex.bst false (addAll k t [] l)) = a at *
 obtain ⟨a0, a1, a2⟩ := a
 generalize (!(addAll k t [] l).isEmpty) = a3 at *
 obtain ⟨cx0, cx1, cx2, _, _, _⟩ := id hx
 clear h
 go_enter Tryz.func55, Tryz.ntmps55
 go_wp2_with fail
 generalize (w.alloc (.cells #[.pointer (some ⟨rb, 0, none⟩), .int .i64 k, .int .i64 t] 109)).alloc (.cells #[.bool false, .int .i64 0] 33) = w0 at *
 refine (hc _ HS0.out).mono ?_
 rintro e w1 ⟨rfl, hb1⟩
 clear hc
 obtain ⟨c0, c1, f0, f1⟩ := id (hy.later hb1)
 obtain ⟨p0, p1⟩ := Box.put33 (hy.later hb1) a1 a2
 go_wp2
 exact bodyPost_ret (v := .tuple #[.agg #[.bool a1, .int .i64 a2], .bool a3]) (by simp [results, Tryz.results55, go_sem, p0, p1]) rfl ⟨rfl, put2 (Below.chain hb0 hb1) (by omega) _ _⟩
set_option maxHeartbeats 4000000 in
set_option maxRecDepth 100000 in
theorem tell_max (rb : Nat) (l : List Smp) (k t : Int) (w : World) (h : St w rb l k t) :
  Calls Tryz.prog 55 #[pv rb k t, .string ⟨#[109, 97, 120]⟩] w fun e w' => e = .returned (.tuple #[.agg #[.bool (Ex.bst true (addAll k t [] l)).2.1, .int .i64 (Ex.bst true (addAll k t [] l)).2.2], .bool (!(addAll k t [] l).isEmpty)]) ∧ Below w.heap.size w w' := by
 have hc := fun W hW => best_any rb l k t true W hW
 have hb0 := bal (bal (Below.refl _ w) (.cells #[.pointer (some ⟨rb, 0, none⟩), .int .i64 k, .int .i64 t] 109)) (.cells #[.bool false, .int .i64 0] 33)
 have hx := (BoxV.new w (.pointer (some ⟨rb, 0, none⟩)) (.int .i64 k) (.int .i64 t) 109).later (bal (Below.refl _ _) (.cells #[.bool false, .int .i64 0] 33))
 have hy := Box.new (w.alloc (.cells #[.pointer (some ⟨rb, 0, none⟩), .int .i64 k, .int .i64 t] 109)) false 0
 have hz : (w.alloc (.cells #[.pointer (some ⟨rb, 0, none⟩), .int .i64 k, .int .i64 t] 109)).heap.size = w.heap.size + 1 := by simp
 rw [hz] at hy
 have HS0 : Hid (St _ rb l k t) := h.later hb0
 clear hz
 generalize (Ex.bst true (addAll k t [] l)) = a at *
 obtain ⟨a0, a1, a2⟩ := a
 generalize (!(addAll k t [] l).isEmpty) = a3 at *
 obtain ⟨cx0, cx1, cx2, _, _, _⟩ := id hx
 clear h
 go_enter Tryz.func55, Tryz.ntmps55
 go_wp2_with fail
 generalize (w.alloc (.cells #[.pointer (some ⟨rb, 0, none⟩), .int .i64 k, .int .i64 t] 109)).alloc (.cells #[.bool false, .int .i64 0] 33) = w0 at *
 refine (hc _ HS0.out).mono ?_
 rintro e w1 ⟨rfl, hb1⟩
 clear hc
 obtain ⟨c0, c1, f0, f1⟩ := id (hy.later hb1)
 obtain ⟨p0, p1⟩ := Box.put33 (hy.later hb1) a1 a2
 go_wp2
 exact bodyPost_ret (v := .tuple #[.agg #[.bool a1, .int .i64 a2], .bool a3]) (by simp [results, Tryz.results55, go_sem, p0, p1]) rfl ⟨rfl, put2 (Below.chain hb0 hb1) (by omega) _ _⟩
set_option maxHeartbeats 4000000 in
set_option maxRecDepth 100000 in
theorem tell_increase (rb : Nat) (l : List Smp) (k t : Int) (w : World) (h : St w rb l k t) :
  Calls Tryz.prog 55 #[pv rb k t, .string ⟨#[105, 110, 99, 114, 101, 97, 115, 101]⟩] w fun e w' => e = .returned (.tuple #[.agg #[.bool (incT l).1, .int .i64 (incT l).2.1], .bool (incT l).2.2]) ∧ Below w.heap.size w w' := by
 have hrg : ∀ s ∈ l, R64 s.2.2 := h.f.rg
 have hle : l.length ≤ 100 := h.f.le
 have hall := fun W hW => Rn.all_any rb l k t W hW
 have hc := fun ao cap W hs => inc_T ao cap l W hle hs hrg
 have hb0 := bal (bal (Below.refl _ w) (.cells #[.pointer (some ⟨rb, 0, none⟩), .int .i64 k, .int .i64 t] 109)) (.cells #[.bool false, .int .i64 0] 33)
 have hx := (BoxV.new w (.pointer (some ⟨rb, 0, none⟩)) (.int .i64 k) (.int .i64 t) 109).later (bal (Below.refl _ _) (.cells #[.bool false, .int .i64 0] 33))
 have hy := Box.new (w.alloc (.cells #[.pointer (some ⟨rb, 0, none⟩), .int .i64 k, .int .i64 t] 109)) false 0
 have hz : (w.alloc (.cells #[.pointer (some ⟨rb, 0, none⟩), .int .i64 k, .int .i64 t] 109)).heap.size = w.heap.size + 1 := by simp
 rw [hz] at hy
 have HS0 : Hid (St _ rb l k t) := h.later hb0
 clear hz
 generalize incT l = a at *
 obtain ⟨a1, a2, a3⟩ := a
 obtain ⟨cx0, cx1, cx2, _, _, _⟩ := id hx
 clear h
 go_enter Tryz.func55, Tryz.ntmps55
 go_wp2_with fail
 generalize (w.alloc (.cells #[.pointer (some ⟨rb, 0, none⟩), .int .i64 k, .int .i64 t] 109)).alloc (.cells #[.bool false, .int .i64 0] 33) = w0 at *
 refine (hall _ HS0.out.m).mono ?_
 rintro e w1 ⟨v, rfl, hov, hb1⟩
 obtain ⟨va, vc, rfl, hms⟩ := hov.slice
 go_wp2_with fail
 refine (hc _ _ _ hms).mono ?_
 rintro e w2 ⟨rfl, hb2⟩
 have hb2' := Below.chain hb1 hb2
 clear hc hall
 obtain ⟨c0, c1, f0, f1⟩ := id (hy.later hb2')
 obtain ⟨p0, p1⟩ := Box.put33 (hy.later hb2') a1 a2
 go_wp2
 exact bodyPost_ret (v := .tuple #[.agg #[.bool a1, .int .i64 a2], .bool a3]) (by simp [results, Tryz.results55, go_sem, p0, p1]) rfl ⟨rfl, put2 (Below.chain hb0 hb2') (by omega) _ _⟩
set_option maxHeartbeats 4000000 in
set_option maxRecDepth 100000 in
theorem tell_what (rb : Nat) (l : List Smp) (k t : Int) (w : World) (h : St w rb l k t) :
  Calls Tryz.prog 55 #[pv rb k t, .string ⟨#[119, 104, 97, 116]⟩] w fun e w' => e = .returned (.tuple #[.agg #[.bool false, .int .i64 0], .bool false]) ∧ Below w.heap.size w w' := by
 have hb0 := bal (bal (Below.refl _ w) (.cells #[.pointer (some ⟨rb, 0, none⟩), .int .i64 k, .int .i64 t] 109)) (.cells #[.bool false, .int .i64 0] 33)
 have hx := (BoxV.new w (.pointer (some ⟨rb, 0, none⟩)) (.int .i64 k) (.int .i64 t) 109).later (bal (Below.refl _ _) (.cells #[.bool false, .int .i64 0] 33))
 have hy := Box.new (w.alloc (.cells #[.pointer (some ⟨rb, 0, none⟩), .int .i64 k, .int .i64 t] 109)) false 0
 have hz : (w.alloc (.cells #[.pointer (some ⟨rb, 0, none⟩), .int .i64 k, .int .i64 t] 109)).heap.size = w.heap.size + 1 := by simp
 rw [hz] at hy
 have HS0 : Hid (St _ rb l k t) := h.later hb0
 clear hz
 obtain ⟨cx0, cx1, cx2, _, _, _⟩ := id hx
 clear h
 go_enter Tryz.func55, Tryz.ntmps55
 obtain ⟨c0, c1, f0, f1⟩ := id hy
 go_wp2
 exact bodyPost_ret (v := .tuple #[.agg #[.bool false, .int .i64 0], .bool false]) (by simp [results, Tryz.results55, go_sem]) rfl ⟨rfl, hb0⟩
end Go.Proofs.YtjgckfcocmhnhaaGreatDoor.Sr
namespace Go.Proofs.YtjgckfcocmhnhaaGreatDoor.Sr
open Go.RowKit Rn
set_option maxHeartbeats 4000000 in
set_option maxRecDepth 100000 in
theorem tell_sum (rb : Nat) (l : List Smp) (k t : Int) (w : World) (h : St w rb l k t) :
  Calls Tryz.prog 55 #[pv rb k t, .string ⟨#[115, 117, 109]⟩] w fun e w' => e = .returned (.tuple #[.agg #[.bool (ov (fSum (cnts (vls l)))), .int .i64 (nn (fSum (cnts (vls l))))], .bool (decide (0 < l.length))]) ∧ Below w.heap.size w w' := by
 have hrg : ∀ s ∈ l, R64 s.2.2 := h.f.rg
 have hsum := fun W hW => Rn.sumR_any rb l k t W hW hrg
 have hlen := fun W hW => Rn.len_any rb l k t W hW
 obtain ⟨z, d1, d2⟩ : ∃ z : Bool, decide ((0 : Int) < (l.length : Int)) = z ∧ decide (0 < l.length) = z := ⟨decide (0 < l.length), by simp, rfl⟩
 rw [d2]
 have hb0 := bal (bal (Below.refl _ w) (.cells #[.pointer (some ⟨rb, 0, none⟩), .int .i64 k, .int .i64 t] 109)) (.cells #[.bool false, .int .i64 0] 33)
 have hx := (BoxV.new w (.pointer (some ⟨rb, 0, none⟩)) (.int .i64 k) (.int .i64 t) 109).later (bal (Below.refl _ _) (.cells #[.bool false, .int .i64 0] 33))
 have hy := Box.new (w.alloc (.cells #[.pointer (some ⟨rb, 0, none⟩), .int .i64 k, .int .i64 t] 109)) false 0
 have hz : (w.alloc (.cells #[.pointer (some ⟨rb, 0, none⟩), .int .i64 k, .int .i64 t] 109)).heap.size = w.heap.size + 1 := by simp
 rw [hz] at hy
 have HS0 : Hid (St _ rb l k t) := h.later hb0
 clear hz
 generalize ov (fSum (cnts (vls l))) = a1 at *
 generalize nn (fSum (cnts (vls l))) = a2 at *
 obtain ⟨cx0, cx1, cx2, _, _, _⟩ := id hx
 clear h
 go_enter Tryz.func55, Tryz.ntmps55
 go_wp2_with fail
 generalize (w.alloc (.cells #[.pointer (some ⟨rb, 0, none⟩), .int .i64 k, .int .i64 t] 109)).alloc (.cells #[.bool false, .int .i64 0] 33) = w0 at *
 have HSS : Hid (∀ W, Below w0.heap.size w0 W → (fun W : World => W.cell? ⟨w.heap.size, 0, none⟩ = some (.pointer (some ⟨rb, 0, none⟩))) W) := fun W hW => (hx.later hW).c0
 have HST : Hid (∀ W, Below w0.heap.size w0 W → Rl W rb l k t) := fun W hW => HS0.out.m.later hW
 have hbd := (Below.refl w0.heap.size w0).drew
 generalize l.length = m at *
 have hS0 := HSS.out _ hbd
 refine wp_region_noPanic ?_
 refine wp_region_held_drew (S := (fun W : World => W.cell? ⟨w.heap.size, 0, none⟩ = some (.pointer (some ⟨rb, 0, none⟩)))) (by kernel_rfl) hS0 (fun _ => ?_)
 refine take_at 0 (some 11) (.pointer (some ⟨w.heap.size, 0, none⟩)) rfl rfl (by kernel_rfl) (by kernel_rfl) (by kernel_rfl) (fun _ _ _ h => h) (by rfl) (fun W hSw => by have q0 := hSw; go_simp) hS0 ?_
 simp only [Act.put, List.setIfInBounds_toArray, List.set_cons_zero, List.set_cons_succ]
 refine take_at 1 (some 12) (.pointer (some ⟨rb, 0, none⟩)) rfl rfl (by kernel_rfl) (by kernel_rfl) (by kernel_rfl) (fun _ _ _ h => h) (by rfl) (fun W hSw => by have q0 := hSw; go_simp) hS0 ?_
 simp only [Act.put, List.setIfInBounds_toArray, List.set_cons_zero, List.set_cons_succ]
 refine take_at 2 (some 13) (.pointer (some ⟨rb, 0, none⟩)) rfl rfl (by kernel_rfl) (by kernel_rfl) (by kernel_rfl) (fun _ _ _ h => h) (by rfl) (fun W hSw => by have q0 := hSw; go_simp) hS0 ?_
 simp only [Act.put, List.setIfInBounds_toArray, List.set_cons_zero, List.set_cons_succ]
 refine take_at 3 (some 14) (.pointer (some ⟨rb, 0, none⟩)) rfl rfl (by kernel_rfl) (by kernel_rfl) (by kernel_rfl) (fun _ _ _ h => h) (by rfl) (fun W hSw => by have q0 := hSw; go_simp) hS0 ?_
 simp only [Act.put, List.setIfInBounds_toArray, List.set_cons_zero, List.set_cons_succ]
 refine take_at 5 (some 16) (.pointer (some ⟨w.heap.size, 0, none⟩)) rfl rfl (by kernel_rfl) (by kernel_rfl) (by kernel_rfl) (fun _ _ _ h => h) (by rfl) (fun W hSw => by have q0 := hSw; go_simp) hS0 ?_
 simp only [Act.put, List.setIfInBounds_toArray, List.set_cons_zero, List.set_cons_succ]
 refine take_at 6 (some 17) (.pointer (some ⟨rb, 0, none⟩)) rfl rfl (by kernel_rfl) (by kernel_rfl) (by kernel_rfl) (fun _ _ _ h => h) (by rfl) (fun W hSw => by have q0 := hSw; go_simp) hS0 ?_
 simp only [Act.put, List.setIfInBounds_toArray, List.set_cons_zero, List.set_cons_succ]
 refine take_at 7 (some 18) (.pointer (some ⟨rb, 0, none⟩)) rfl rfl (by kernel_rfl) (by kernel_rfl) (by kernel_rfl) (fun _ _ _ h => h) (by rfl) (fun W hSw => by have q0 := hSw; go_simp) hS0 ?_
 simp only [Act.put, List.setIfInBounds_toArray, List.set_cons_zero, List.set_cons_succ]
 refine take_at 8 (some 19) (.pointer (some ⟨rb, 0, none⟩)) rfl rfl (by kernel_rfl) (by kernel_rfl) (by kernel_rfl) (fun _ _ _ h => h) (by rfl) (fun W hSw => by have q0 := hSw; go_simp) hS0 ?_
 simp only [Act.put, List.setIfInBounds_toArray, List.set_cons_zero, List.set_cons_succ]
 refine wpAnyH_ready (rs := [4]) (by kernel_rfl) (by simp) ?_
 refine AllReadyH.cons rfl (fun K hK => ?_) AllReadyH.nil
 go_simp
 refine (hsum _ (HST.out _ hbd)).mono ?_
 rintro e w1 ⟨rfl, hb1⟩
 have hb1' := Below.chain hbd hb1
 refine hK.out _ _ (HSS.out _ hb1') (fun _ => ?_)
 clear hK K
 refine wpAnyH_ready (rs := [9]) (by kernel_rfl) (by simp) ?_
 refine AllReadyH.cons rfl (fun K hK => ?_) AllReadyH.nil
 go_simp
 refine (hlen _ (HST.out _ hb1')).mono ?_
 rintro e w2 ⟨rfl, rfl⟩
 have hS1 := HSS.out _ hb1'
 refine hK.out _ _ (HSS.out _ hb1') (fun _ => ?_)
 clear hK K
 refine take_at 10 (some 21) (.bool z) rfl rfl (by kernel_rfl) (by kernel_rfl) (by kernel_rfl) (fun _ _ _ h => h) (by rfl) (fun W hSw => by have q0 := hSw; go_simp) hS1 ?_
 simp only [Act.put, List.setIfInBounds_toArray, List.set_cons_zero, List.set_cons_succ]
 have hy5 := hy.later hb1'
 obtain ⟨c0, c1, f0, f1⟩ := id hy5
 obtain ⟨p0, p1⟩ := Box.put33 hy5 a1 a2
 have hg5 : w1.grownBy ((w1.setCell ⟨w.heap.size + 1, 0, none⟩ (.bool a1)).setCell ⟨w.heap.size + 1, 1, none⟩ (.int .i64 a2)) (some (w.heap.size + 1)) := (grown_set _ _ _ _).trans (grown_set _ _ _ _)
 have hS9 := grown_cell hg5 hS1 (by simp)
 refine wpAnyH_ready (rs := [11]) (by kernel_rfl) (by simp) ?_
 refine AllReadyH.cons rfl (fun K hK => ?_) AllReadyH.nil
 go_simp
 refine hK.out _ _ (show (fun W : World => W.cell? ⟨w.heap.size, 0, none⟩ = some (.pointer (some ⟨rb, 0, none⟩))) _ from hS9) (fun _ => ?_)
 clear hK K
 refine take_at 12 (some 5) (.bool z) rfl rfl (by kernel_rfl) (by kernel_rfl) (by kernel_rfl) (fun _ _ _ h => h) (by rfl) (fun W hSw => by have q0 := hSw; go_simp) (show (fun W : World => W.cell? ⟨w.heap.size, 0, none⟩ = some (.pointer (some ⟨rb, 0, none⟩))) _ from hS9) ?_
 simp only [Act.put, List.setIfInBounds_toArray, List.set_cons_zero, List.set_cons_succ]
 refine wpAnyH_done (by kernel_rfl) ?_ _
 refine NoPanic.normal ?_
 go_wp2
 exact bodyPost_ret (v := .tuple #[.agg #[.bool a1, .int .i64 a2], .bool z]) (by simp [results, Tryz.results55, go_sem, p0, p1]) rfl ⟨rfl, put2 (Below.chain hb0 hb1') (by omega) _ _⟩
set_option maxHeartbeats 4000000 in
set_option maxRecDepth 100000 in
theorem tell_count (rb : Nat) (l : List Smp) (k t : Int) (w : World) (h : St w rb l k t) :
  Calls Tryz.prog 55 #[pv rb k t, .string ⟨#[99, 111, 117, 110, 116]⟩] w fun e w' => e = .returned (.tuple #[.agg #[.bool (ov (fOf l.length)), .int .i64 (nn (fOf l.length))], .bool (decide (0 < l.length))]) ∧ Below w.heap.size w w' := by
 have hle : l.length ≤ 100 := h.f.le
 have hof := fun W => of_any (l.length : Int) W (by unfold R64; omega)
 have hlen := fun W hW => Rn.len_any rb l k t W hW
 obtain ⟨z, d1, d2⟩ : ∃ z : Bool, decide ((0 : Int) < (l.length : Int)) = z ∧ decide (0 < l.length) = z := ⟨decide (0 < l.length), by simp, rfl⟩
 rw [d2]
 have hb0 := bal (bal (Below.refl _ w) (.cells #[.pointer (some ⟨rb, 0, none⟩), .int .i64 k, .int .i64 t] 109)) (.cells #[.bool false, .int .i64 0] 33)
 have hx := (BoxV.new w (.pointer (some ⟨rb, 0, none⟩)) (.int .i64 k) (.int .i64 t) 109).later (bal (Below.refl _ _) (.cells #[.bool false, .int .i64 0] 33))
 have hy := Box.new (w.alloc (.cells #[.pointer (some ⟨rb, 0, none⟩), .int .i64 k, .int .i64 t] 109)) false 0
 have hz : (w.alloc (.cells #[.pointer (some ⟨rb, 0, none⟩), .int .i64 k, .int .i64 t] 109)).heap.size = w.heap.size + 1 := by simp
 rw [hz] at hy
 have HS0 : Hid (St _ rb l k t) := h.later hb0
 clear hz
 generalize ov (fOf (l.length : Int)) = a1 at *
 generalize nn (fOf (l.length : Int)) = a2 at *
 obtain ⟨cx0, cx1, cx2, _, _, _⟩ := id hx
 clear h
 go_enter Tryz.func55, Tryz.ntmps55
 go_wp2_with fail
 generalize (w.alloc (.cells #[.pointer (some ⟨rb, 0, none⟩), .int .i64 k, .int .i64 t] 109)).alloc (.cells #[.bool false, .int .i64 0] 33) = w0 at *
 have HSS : Hid (∀ W, Below w0.heap.size w0 W → (fun W : World => W.cell? ⟨w.heap.size, 0, none⟩ = some (.pointer (some ⟨rb, 0, none⟩))) W) := fun W hW => (hx.later hW).c0
 have HST : Hid (∀ W, Below w0.heap.size w0 W → Rl W rb l k t) := fun W hW => HS0.out.m.later hW
 have hbd := (Below.refl w0.heap.size w0).drew
 generalize l.length = m at *
 have hS0 := HSS.out _ hbd
 refine wp_region_noPanic ?_
 refine wp_region_held_drew (S := (fun W : World => W.cell? ⟨w.heap.size, 0, none⟩ = some (.pointer (some ⟨rb, 0, none⟩)))) (by kernel_rfl) hS0 (fun _ => ?_)
 refine take_at 0 (some 45) (.pointer (some ⟨w.heap.size, 0, none⟩)) rfl rfl (by kernel_rfl) (by kernel_rfl) (by kernel_rfl) (fun _ _ _ h => h) (by rfl) (fun W hSw => by have q0 := hSw; go_simp) hS0 ?_
 simp only [Act.put, List.setIfInBounds_toArray, List.set_cons_zero, List.set_cons_succ]
 refine take_at 1 (some 46) (.pointer (some ⟨rb, 0, none⟩)) rfl rfl (by kernel_rfl) (by kernel_rfl) (by kernel_rfl) (fun _ _ _ h => h) (by rfl) (fun W hSw => by have q0 := hSw; go_simp) hS0 ?_
 simp only [Act.put, List.setIfInBounds_toArray, List.set_cons_zero, List.set_cons_succ]
 refine take_at 2 (some 47) (.pointer (some ⟨rb, 0, none⟩)) rfl rfl (by kernel_rfl) (by kernel_rfl) (by kernel_rfl) (fun _ _ _ h => h) (by rfl) (fun W hSw => by have q0 := hSw; go_simp) hS0 ?_
 simp only [Act.put, List.setIfInBounds_toArray, List.set_cons_zero, List.set_cons_succ]
 refine take_at 3 (some 48) (.pointer (some ⟨rb, 0, none⟩)) rfl rfl (by kernel_rfl) (by kernel_rfl) (by kernel_rfl) (fun _ _ _ h => h) (by rfl) (fun W hSw => by have q0 := hSw; go_simp) hS0 ?_
 simp only [Act.put, List.setIfInBounds_toArray, List.set_cons_zero, List.set_cons_succ]
 refine take_at 6 (some 51) (.pointer (some ⟨w.heap.size, 0, none⟩)) rfl rfl (by kernel_rfl) (by kernel_rfl) (by kernel_rfl) (fun _ _ _ h => h) (by rfl) (fun W hSw => by have q0 := hSw; go_simp) hS0 ?_
 simp only [Act.put, List.setIfInBounds_toArray, List.set_cons_zero, List.set_cons_succ]
 refine take_at 7 (some 52) (.pointer (some ⟨rb, 0, none⟩)) rfl rfl (by kernel_rfl) (by kernel_rfl) (by kernel_rfl) (fun _ _ _ h => h) (by rfl) (fun W hSw => by have q0 := hSw; go_simp) hS0 ?_
 simp only [Act.put, List.setIfInBounds_toArray, List.set_cons_zero, List.set_cons_succ]
 refine take_at 8 (some 53) (.pointer (some ⟨rb, 0, none⟩)) rfl rfl (by kernel_rfl) (by kernel_rfl) (by kernel_rfl) (fun _ _ _ h => h) (by rfl) (fun W hSw => by have q0 := hSw; go_simp) hS0 ?_
 simp only [Act.put, List.setIfInBounds_toArray, List.set_cons_zero, List.set_cons_succ]
 refine take_at 9 (some 54) (.pointer (some ⟨rb, 0, none⟩)) rfl rfl (by kernel_rfl) (by kernel_rfl) (by kernel_rfl) (fun _ _ _ h => h) (by rfl) (fun W hSw => by have q0 := hSw; go_simp) hS0 ?_
 simp only [Act.put, List.setIfInBounds_toArray, List.set_cons_zero, List.set_cons_succ]
 refine wpAnyH_ready (rs := [4]) (by kernel_rfl) (by simp) ?_
 refine AllReadyH.cons rfl (fun K hK => ?_) AllReadyH.nil
 go_simp
 refine (hlen _ (HST.out _ hbd)).mono ?_
 rintro e w1 ⟨rfl, rfl⟩
 refine hK.out _ _ (HSS.out _ hbd) (fun _ => ?_)
 clear hK K
 refine wpAnyH_ready (rs := [5]) (by kernel_rfl) (by simp) ?_
 refine AllReadyH.cons rfl (fun K hK => ?_) AllReadyH.nil
 go_simp
 refine (hof _).mono ?_
 rintro e w1 ⟨rfl, hb1⟩
 have hb1' := Below.chain hbd hb1
 refine hK.out _ _ (HSS.out _ hb1') (fun _ => ?_)
 clear hK K
 refine wpAnyH_ready (rs := [10]) (by kernel_rfl) (by simp) ?_
 refine AllReadyH.cons rfl (fun K hK => ?_) AllReadyH.nil
 go_simp
 refine (hlen _ (HST.out _ hb1')).mono ?_
 rintro e w2 ⟨rfl, rfl⟩
 have hS1 := HSS.out _ hb1'
 refine hK.out _ _ (HSS.out _ hb1') (fun _ => ?_)
 clear hK K
 refine take_at 11 (some 56) (.bool z) rfl rfl (by kernel_rfl) (by kernel_rfl) (by kernel_rfl) (fun _ _ _ h => h) (by rfl) (fun W hSw => by have q0 := hSw; go_simp) hS1 ?_
 simp only [Act.put, List.setIfInBounds_toArray, List.set_cons_zero, List.set_cons_succ]
 have hy5 := hy.later hb1'
 obtain ⟨c0, c1, f0, f1⟩ := id hy5
 obtain ⟨p0, p1⟩ := Box.put33 hy5 a1 a2
 have hg5 : w1.grownBy ((w1.setCell ⟨w.heap.size + 1, 0, none⟩ (.bool a1)).setCell ⟨w.heap.size + 1, 1, none⟩ (.int .i64 a2)) (some (w.heap.size + 1)) := (grown_set _ _ _ _).trans (grown_set _ _ _ _)
 have hS9 := grown_cell hg5 hS1 (by simp)
 refine wpAnyH_ready (rs := [12]) (by kernel_rfl) (by simp) ?_
 refine AllReadyH.cons rfl (fun K hK => ?_) AllReadyH.nil
 go_simp
 refine hK.out _ _ (show (fun W : World => W.cell? ⟨w.heap.size, 0, none⟩ = some (.pointer (some ⟨rb, 0, none⟩))) _ from hS9) (fun _ => ?_)
 clear hK K
 refine take_at 13 (some 5) (.bool z) rfl rfl (by kernel_rfl) (by kernel_rfl) (by kernel_rfl) (fun _ _ _ h => h) (by rfl) (fun W hSw => by have q0 := hSw; go_simp) (show (fun W : World => W.cell? ⟨w.heap.size, 0, none⟩ = some (.pointer (some ⟨rb, 0, none⟩))) _ from hS9) ?_
 simp only [Act.put, List.setIfInBounds_toArray, List.set_cons_zero, List.set_cons_succ]
 refine wpAnyH_done (by kernel_rfl) ?_ _
 refine NoPanic.normal ?_
 go_wp2
 exact bodyPost_ret (v := .tuple #[.agg #[.bool a1, .int .i64 a2], .bool z]) (by simp [results, Tryz.results55, go_sem, p0, p1]) rfl ⟨rfl, put2 (Below.chain hb0 hb1') (by omega) _ _⟩
set_option maxHeartbeats 4000000 in
set_option maxRecDepth 100000 in
theorem tell_last (rb : Nat) (l : List Smp) (k t : Int) (w : World) (h : St w rb l k t) :
  Calls Tryz.prog 55 #[pv rb k t, .string ⟨#[108, 97, 115, 116]⟩] w fun e w' => e = .returned (.tuple #[.agg #[.bool (lst l).2.1, .int .i64 (lst l).2.2], .bool (!l.isEmpty)]) ∧ Below w.heap.size w w' := by
 have hlast := fun W hW => Rn.last_any rb l k t W hW
 have hb0 := bal (bal (Below.refl _ w) (.cells #[.pointer (some ⟨rb, 0, none⟩), .int .i64 k, .int .i64 t] 109)) (.cells #[.bool false, .int .i64 0] 33)
 have hx := (BoxV.new w (.pointer (some ⟨rb, 0, none⟩)) (.int .i64 k) (.int .i64 t) 109).later (bal (Below.refl _ _) (.cells #[.bool false, .int .i64 0] 33))
 have hy := Box.new (w.alloc (.cells #[.pointer (some ⟨rb, 0, none⟩), .int .i64 k, .int .i64 t] 109)) false 0
 have hz : (w.alloc (.cells #[.pointer (some ⟨rb, 0, none⟩), .int .i64 k, .int .i64 t] 109)).heap.size = w.heap.size + 1 := by simp
 rw [hz] at hy
 have HS0 : Hid (St _ rb l k t) := h.later hb0
 clear hz
 generalize lst l = a at *
 obtain ⟨a0, a1, a2⟩ := a
 generalize (!l.isEmpty) = z at *
 obtain ⟨cx0, cx1, cx2, _, _, _⟩ := id hx
 clear h
 go_enter Tryz.func55, Tryz.ntmps55
 go_wp2_with fail
 generalize (w.alloc (.cells #[.pointer (some ⟨rb, 0, none⟩), .int .i64 k, .int .i64 t] 109)).alloc (.cells #[.bool false, .int .i64 0] 33) = w0 at *
 refine (hlast _ HS0.out.m).mono ?_
 rintro e w1 ⟨rfl, hb1⟩
 have hbA := bal (Below.refl _ w1) (.cells #[.int .i64 a0, .bool a1, .int .i64 a2] 35)
 have hb2 := Below.chain hb1 hbA
 obtain ⟨x0, x1, x2, _, _, _⟩ := BoxS.new w1 (a0, a1, a2)
 clear hlast
 obtain ⟨c0, c1, f0, f1⟩ := id (hy.later hb2)
 obtain ⟨p0, p1⟩ := Box.put33 (hy.later hb2) a1 a2
 go_wp2
 exact bodyPost_ret (v := .tuple #[.agg #[.bool a1, .int .i64 a2], .bool z]) (by simp [results, Tryz.results55, go_sem, p0, p1]) rfl ⟨rfl, put2 (Below.chain hb0 hb2) (by omega) _ _⟩
end Go.Proofs.YtjgckfcocmhnhaaGreatDoor.Sr
namespace Go.Proofs.YtjgckfcocmhnhaaGreatDoor.Sr
open Go.RowKit Rn
set_option maxRecDepth 100000 in
theorem over_sx (name : Value) (a1 : Bool) (a2 : Int) (a3 : Bool) (sb : Nat) (now : Int) (base : Nat) (ao : Option Addr) (n cap : Nat) (rs : List SRec) (qa : Option Addr) (qn qc : Nat) (q : List Lb.Pr) (d : Int) (w : World) (h : Sx w sb now base ao n cap rs) (hn : n ≤ 100) (hnow : 0 ≤ now ∧ now ≤ 1000000) (hs : Srt rs) (hqn : qn ≤ 1000000) (hq : Lb.Ps w qa qn q)
  (htell : ∀ rb W, St W rb (addAll (wd d) now [] (smpR q rs)) (wd d) now → Calls Tryz.prog 55 #[pv rb (wd d) now, name] W fun e w' => e = .returned (.tuple #[.agg #[.bool a1, .int .i64 a2], .bool a3]) ∧ Below W.heap.size W w') :
  Calls Tryz.prog 21 #[.pointer (some ⟨sb, 0, none⟩), .slice qa qn qc, name, .int .i64 d] w fun e w' => e = .returned (.tuple #[.agg #[.bool a1, .int .i64 a2], .bool a3]) ∧ Below w.heap.size w w' := by
 have hb0 := bal (Below.refl _ w) (.cells #[.bool false, .int .i64 0] 33)
 have hy := Box.new w false 0
 have hpast := fun (W : World) h1 h2 => past_sx sb now base ao n cap rs qa qn qc q d W h1 hn hnow hs hqn h2
 have hm0 := h.later hb0
 have hq0 := hq.later hb0
 generalize addAll (wd d) now [] (smpR q rs) = l at *
 generalize wd d = k at *
 clear h hq hs
 go_enter Tryz.func21, Tryz.ntmps21
 go_wp2_with fail
 refine (hpast _ hm0 hq0).mono ?_
 rintro e w1 ⟨rb, rfl, hst, hrb, hb1⟩
 go_wp2_with fail
 refine (htell _ _ hst).mono ?_
 rintro e w2 ⟨rfl, hb2⟩
 have hb2' := Below.chain hb1 hb2
 obtain ⟨c0, c1, f0, f1⟩ := id (hy.later hb2')
 obtain ⟨p0, p1⟩ := Box.put33 (hy.later hb2') a1 a2
 clear hpast htell hm0 hq0
 go_wp2
 exact bodyPost_ret (v := .tuple #[.agg #[.bool a1, .int .i64 a2], .bool a3]) (by simp [results, Tryz.results21, go_sem, p0, p1]) rfl ⟨rfl, put2 (Below.chain hb0 hb2') (Nat.le_refl _) _ _⟩
end Go.Proofs.YtjgckfcocmhnhaaGreatDoor.Sr
namespace Go.Proofs.YtjgckfcocmhnhaaGreatDoor.Sr
open Go.RowKit Rn
/-- A row of sets, made. -/
def Qs (w : World) (base : Nat) (v : Value) (L : List (List Lb.Pr)) : Prop :=
 ∃ vs : List Value, w.ownsRow base 31 1 v L.length vs ∧ ∀ j, j < L.length → ∃ u, vs[j]? = some u ∧ Pq w u (L.getD j [])
theorem Qs.later {w w' : World} {base : Nat} {v : Value} {L : List (List Lb.Pr)} (h : Qs w base v L) (hb : Below w.heap.size w w') : Qs w' base v L := by
 obtain ⟨vs, ho, hj⟩ := h
 exact ⟨vs, row_kept ho (grown_below hb none) (fun _ _ => by simp), fun j hjl => by obtain ⟨u, h1, h2⟩ := hj j hjl; exact ⟨u, h1, h2.later hb⟩⟩
theorem infoL : (Tryz.prog.info? 31).map (fun i => (i.zero, i.size, i.bytes)) = some (some (.slice none 0 0), 1, 24) := by kernel_rfl
theorem infoL_parts : ∃ i, Tryz.prog.info? 31 = some i ∧ i.zero = some (.slice none 0 0) ∧ i.size = 1 ∧ i.bytes = 24 := by
 have h := infoL
 cases hi : Tryz.prog.info? 31 with
 | none => rw [hi] at h; cases h
 | some i =>
  rw [hi] at h
  simp only [Option.map_some, Option.some.injEq, Prod.mk.injEq] at h
  exact ⟨i, rfl, h.1, h.2.1, h.2.2⟩
theorem zeroL : (Value.slice none 0 0).cells.size = 1 := by kernel_rfl
/-- The sets of those that match. -/
def setsR (m : List Lb.Mat) (rs : List SRec) : List (List Lb.Pr) := (rs.filter fun r => Lb.fAll r.set m).map (·.set)
theorem setsR_snoc (m : List Lb.Mat) (rs : List SRec) (r : SRec) : setsR m (rs ++ [r]) = if Lb.fAll r.set m = true then setsR m rs ++ [r.set] else setsR m rs := by
 unfold setsR
 rw [List.filter_append, List.map_append]
 cases h : Lb.fAll r.set m <;> simp [h]
theorem setsR_len (m : List Lb.Mat) (rs : List SRec) : (setsR m rs).length ≤ rs.length := by
 unfold setsR
 rw [List.length_map]
 exact List.length_filter_le _ _
theorem take_snocR {rs : List SRec} {j : Nat} (h : j < rs.length) : rs.take (j + 1) = rs.take j ++ [rs.getD j r0] := by
 rw [List.take_add_one, List.getD_eq_getElem?_getD, List.getElem?_eq_getElem h]
 rfl
theorem Qs.snoc {w w' : World} {base : Nat} {v v' : Value} {L : List (List Lb.Pr)} {vs : List Value} {u : Value} {a : List Lb.Pr} (ho : w'.ownsRow base 31 1 v' (L.length + 1) (vs ++ [u])) (hl : vs.length = L.length) (hg : w.grownBy w' v.ownBlock) (hne : ∀ g, v.ownBlock = some g → Ty w g 31)
  (hj : ∀ j, j < L.length → ∃ u, vs[j]? = some u ∧ Pq w u (L.getD j [])) (hu : Pq w u a) : Qs w' base v' (L ++ [a]) := by
 have hk : ∀ x b, Pq w x b → Pq w' x b := fun x b hx => hx.keptN hg (fun g hg' e => by obtain ⟨_, _, _, _, _, _, ht⟩ := hx; exact (ht g hg').ne (hne g e.symm) (by decide) rfl)
 refine ⟨vs ++ [u], by rw [List.length_append]; exact ho, fun j hjl => ?_⟩
 rw [List.length_append, List.length_singleton] at hjl
 rcases Nat.lt_or_ge j L.length with h | h
 ·
  obtain ⟨x, h1, h2⟩ := hj j h
  refine ⟨x, by rw [List.getElem?_append_left (by omega)]; exact h1, ?_⟩
  rw [List.getD_eq_getElem?_getD, List.getElem?_append_left h, ← List.getD_eq_getElem?_getD]
  exact hk _ _ h2
 ·
  obtain rfl : j = L.length := by omega
  refine ⟨u, by rw [List.getElem?_append_right (by omega), hl, Nat.sub_self]; rfl, ?_⟩
  rw [List.getD_eq_getElem?_getD, List.getElem?_append_right (Nat.le_refl _), Nat.sub_self]
  exact hk _ _ hu
set_option maxHeartbeats 4000000 in
set_option maxRecDepth 100000 in
theorem sets_sx (sb : Nat) (now : Int) (base : Nat) (ao : Option Addr) (n cap : Nat) (rs : List SRec) (mo : Option Addr) (mn mc : Nat) (m : List Lb.Mat) (w : World) (h : Sx w sb now base ao n cap rs) (hn : n ≤ 100) (hmn : mn ≤ 1000000) (hm : Lb.Ms w mo mn m) (hg : Lb.FitM m) (hfp : ∀ r ∈ rs, Lb.FitP r.set) :
  Calls Tryz.prog 26 #[.pointer (some ⟨sb, 0, none⟩), .slice mo mn mc] w fun e w' => ∃ v, e = .returned v ∧ Qs w' w.heap.size v (setsR m rs) ∧ Below w.heap.size w w' := by
 obtain ⟨i0, hi, hz0, hz1, hz2⟩ := infoL_parts
 have HN : Hid (rs.length = n) := h.len
 have HO : Hid (∀ W, Below w.heap.size w W → Os W ao n rs) := fun W hW => h.os.later hW
 have HM : Hid (∀ W, Below w.heap.size w W → Lb.Ms W mo mn m) := fun W hW => Lb.Ms.later hm hW
 have HP : Hid (∀ W, Below w.heap.size w W → ∀ j, j < n → Pq W (rs.getD j r0).lab (rs.getD j r0).set ∧ Lb.FitP (rs.getD j r0).set) := fun W hW j hj => by
  have hmem : rs.getD j r0 ∈ rs := by rw [List.getD_eq_getElem?_getD, List.getElem?_eq_getElem (by rw [HN.out]; exact hj)]; exact List.getElem_mem _
  exact ⟨(h.q _ hmem).later hW, hfp _ hmem⟩
 have HSL : Hid (∀ j, j < n → (setsR m (rs.take j)).length ≤ j) := fun j hj => Nat.le_trans (setsR_len _ _) (by rw [List.length_take]; omega)
 have c0 := h.c0
 have hclone := fun v a W (hW : Pq W v a) => clone_any v a W hW.pv
 have hb0 := bal (Below.refl _ w) (.cells #[] 31)
 have hq0 : Qs (w.alloc (.cells #[] 31)) w.heap.size (.slice (some ⟨w.heap.size, 0, none⟩) 0 0) [] := ⟨[], World.ownsRow_made w #[] 0 (Nat.le_refl _) (Nat.zero_le _) (by simp), fun j hj => absurd hj (Nat.not_lt_zero _)⟩
 have hc0 := (hb0.cell (p := ⟨sb, 0, none⟩) (World.block_lt_of_cell? _ _ c0)).trans c0
 clear h hm hfp
 go_enter Tryz.func26, Tryz.ntmps26
 go_wp2
 go_loopw [14, 5] (fun i v wr => ∃ j : Nat, j ≤ n ∧ i = .int .i64 j ∧ Hid (Qs wr w.heap.size v (setsR m (rs.take j))) ∧ Below w.heap.size w wr) (fun i _ _ => n - (intOf i).toNat)
 case atStart => exact ⟨0, by omega, rfl, hq0, hb0⟩
 case round =>
  obtain ⟨j, hj, rfl, HQ, hb⟩ := hrel
  by_cases hlt : j < n
  ·
   have hd : decide ((j : Int) < (n : Int)) = true := decide_eq_true (by omega)
   obtain ⟨-, hoc⟩ := HO.out wr hb
   obtain ⟨g, rfl, -, hc⟩ := hoc (by omega)
   obtain ⟨p0, p1⟩ := hc j hlt
   obtain ⟨hpq, hfp⟩ := HP.out wr hb j hlt
   have HE : Hid (setsR m (rs.take (j + 1)) = if Lb.fAll (rs.getD j r0).set m = true then setsR m (rs.take j) ++ [(rs.getD j r0).set] else setsR m (rs.take j)) := by
    show _ = _
    rw [take_snocR (by rw [HN.out]; exact hlt), setsR_snoc]
   have hsl := HSL.out j hlt
   clear hc hoc
   generalize rs.getD j r0 = y at *
   obtain ⟨lab, rb, sy, ly, ty⟩ := y
   dsimp only at *
   obtain ⟨xa, xn, xc, rfl, hxn, hps, hty⟩ := id hpq
   have hbA := bal (Below.refl _ wr) (.cells #[.slice xa xn xc, .pointer (some ⟨rb, 0, none⟩)] 74)
   have hB1 := Below.chain hb hbA
   have hall := fun W h1 h2 => Lb.all_any xa xn xc sy mo mn mc m W (by omega) (by omega) h1 h2 hfp hg
   have hps1 := hps.later hbA
   have hms1 := HM.out _ hB1
   have hpq1 := hpq.later hbA
   have HPQ : Hid _ := hpq1
   have x0 : (wr.alloc (.cells #[.slice xa xn xc, .pointer (some ⟨rb, 0, none⟩)] 74)).cell? ⟨wr.heap.size, 0, none⟩ = some (.slice xa xn xc) := by simp [go_sem]
   have HQ1 : Hid _ := HQ.out.later hbA
   generalize hL : setsR m (rs.take j) = L at *
   clear hL hps hpq hpq1
   cases hz : Lb.fAll sy m with
   | true =>
    rw [hz] at hall HE
    go_wp2_with fail
    refine (hall _ hps1 hms1).mono ?_
    rintro e w1 ⟨rfl, hb1⟩
    have x1 := (hb1.cell (p := ⟨wr.heap.size, 0, none⟩) (World.block_lt_of_cell? _ _ x0)).trans x0
    have hB2 := Below.chain hB1 hb1
    have hpq2 := Pq.later (v := .slice xa xn xc) (a := sy) HPQ.out hb1
    go_wp2_with fail
    refine (hclone _ _ _ hpq2).mono ?_
    rintro e w2 ⟨v', rfl, hpq3, hb2, -⟩
    obtain ⟨ya, yn, yc, rfl, -⟩ := id hpq3
    have hbC := bal (Below.refl _ w2) (.cells #[.slice ya yn yc] 31)
    have hB4 := Below.chain (Below.chain hB2 hb2) hbC
    have hq4 := ((Qs.later HQ1.out hb1).later hb2).later hbC
    obtain ⟨vs, hown, hjs⟩ := hq4
    have hvl : vs.length = L.length := by have := hown.1; rw [Nat.mul_one] at this; exact this
    have hpq4 := hpq3.later hbC
    have y0 : ∀ i u, ([.slice ya yn yc] : List Value)[i]? = some u → (w2.alloc (.cells #[.slice ya yn yc] 31)).cell? ((⟨w2.heap.size, 0, none⟩ : Addr).add i) = some u := by
     intro i u hu
     rw [Addr.add_lit, Nat.zero_add]
     match i, hu with
     | 0, hu => simpa [go_sem] using hu
     | i + 1, hu => simp at hu
    have HPQ4 : Hid _ := hpq4
    have HJS : Hid _ := hjs
    have HVL : Hid _ := hvl
    clear hclone hall hpq3 hpq4 hjs hvl hpq2
    go_wp2_with (at_builtin; go_must (refine wpList_append_own _ rfl _ _ 66 rfl w.heap.size 31 i0 (.slice none 0 0) 1 24 Tryz.underlying66 hi hz0 hz1 hz2 zeroL (by decide) _ _ _ rfl hown ⟨w2.heap.size, 0, none⟩ 1 1 [.slice ya yn yc] rfl rfl ?hnews ?hone ?h63 ?hby ?hbs ?_))
    case hnews => exact y0
    case hone => intro u hu; cases List.mem_singleton.1 hu; rfl
    case h63 => unfold maxLen; omega
    case hby => omega
    case hbs => exact hB4.size
    intro v5 w5 ho5 hg5 _
    have hfin := Qs.snoc ho5 HVL.out hg5 (fun g hg => row_ty hown hg) HJS.out HPQ4.out
    have HFI : Hid (Qs w5 w.heap.size v5 (setsR m (rs.take (j + 1)))) := by
     have h1 : setsR m (rs.take (j + 1)) = L ++ [sy] := by
      have := HE.out
      simpa using this
     show Qs _ _ _ _
     rw [h1]
     exact hfin
    have hB5 := hB4.grown hg5 hB4.size (fun k hk => (World.ownsRow.lt hown k hk).1)
    clear hfin
    go_wp2
    go_roundw
    case rel => exact ⟨j + 1, by omega, by go_num, HFI, hB5⟩
    case measure => simp [intOf]; omega
   | false =>
    rw [hz] at hall HE
    have HE2 : Hid (setsR m (rs.take (j + 1)) = L) := by have := HE.out; rw [if_neg (by decide)] at this; exact this
    go_wp2_with fail
    refine (hall _ hps1 hms1).mono ?_
    rintro e w1 ⟨rfl, hb1⟩
    have hq2 := Qs.later HQ1.out hb1
    have HQ2 : Hid _ := hq2
    clear hq2
    go_wp2
    go_roundw
    case rel => exact ⟨j + 1, by omega, by go_num, by show Qs _ _ _ _; rw [HE2.out]; exact HQ2.out, Below.chain hB1 hb1⟩
    case measure => simp [intOf]; omega
  ·
   have hd : decide ((j : Int) < (n : Int)) = false := decide_eq_false (by omega)
   obtain rfl : j = n := by omega
   have HE : Hid (rs.take j = rs) := by show _ = _; exact List.take_of_length_le (by rw [HN.out]; exact Nat.le_refl _)
   go_wp2
   go_ret
   refine ⟨_, rfl, ?_, hb⟩
   have := HQ.out
   rw [HE.out] at this
   exact this
end Go.Proofs.YtjgckfcocmhnhaaGreatDoor.Sr
