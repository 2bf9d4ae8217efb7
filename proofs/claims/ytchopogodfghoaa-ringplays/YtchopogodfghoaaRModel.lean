/- The document's model of a window, in memory: its width, its time, the last one's time, its samples; time that goes on. -/
import Derived.Test.YtchopogodfghoaaROver
namespace Go.Proofs.Ytchopogodfghoaa
open Go.RowKit

structure Md (w : World) (mb : Nat) (k now last : Int) (v : Value) : Prop where
  c0 : w.cell? ⟨mb, 0, none⟩ = some (.int .i64 k)
  c1 : w.cell? ⟨mb, 1, none⟩ = some (.int .i64 now)
  c2 : w.cell? ⟨mb, 2, none⟩ = some (.int .i64 last)
  c3 : w.cell? ⟨mb, 3, none⟩ = some v
  f1 : w.frozen? ⟨mb, 1, none⟩ = false
  f2 : w.frozen? ⟨mb, 2, none⟩ = false
  f3 : w.frozen? ⟨mb, 3, none⟩ = false
theorem Md.lt {w : World} {mb : Nat} {k now last : Int} {v : Value} (h : Md w mb k now last v) : mb < w.heap.size := World.block_lt_of_cell? _ _ h.c0
theorem Md.kept {w w' : World} {mb : Nat} {k now last : Int} {v : Value} (h : Md w mb k now last v) {row : Option Nat} (hg : w.grownBy w' row) (hne : some mb ≠ row) : Md w' mb k now last v :=
  ⟨grown_cell hg h.c0 hne, grown_cell hg h.c1 hne, grown_cell hg h.c2 hne, grown_cell hg h.c3 hne, grown_frozen hg h.lt h.f1 hne, grown_frozen hg h.lt h.f2 hne, grown_frozen hg h.lt h.f3 hne⟩
theorem Md.later {w w' : World} {mb : Nat} {k now last : Int} {v : Value} (h : Md w mb k now last v) (hb : Below w.heap.size w w') : Md w' mb k now last v := h.kept (grown_below hb none) (by simp)
theorem Md.setN {w : World} {mb : Nat} {k now last : Int} {v : Value} (h : Md w mb k now last v) (x : Int) : Md (w.setCell ⟨mb, 1, none⟩ (.int .i64 x)) mb k x last v :=
  ⟨(set_ne (by omega)).trans h.c0, set_same h.c1, (set_ne (by omega)).trans h.c2, (set_ne (by omega)).trans h.c3, by simpa using h.f1, by simpa using h.f2, by simpa using h.f3⟩
theorem Md.setT {w : World} {mb : Nat} {k now last : Int} {v : Value} (h : Md w mb k now last v) (x : Int) : Md (w.setCell ⟨mb, 2, none⟩ (.int .i64 x)) mb k now x v :=
  ⟨(set_ne (by omega)).trans h.c0, (set_ne (by omega)).trans h.c1, set_same h.c2, (set_ne (by omega)).trans h.c3, by simpa using h.f1, by simpa using h.f2, by simpa using h.f3⟩
theorem Md.setV {w : World} {mb : Nat} {k now last : Int} {v : Value} (h : Md w mb k now last v) (u : Value) : Md (w.setCell ⟨mb, 3, none⟩ u) mb k now last u :=
  ⟨(set_ne (by omega)).trans h.c0, (set_ne (by omega)).trans h.c1, (set_ne (by omega)).trans h.c2, set_same h.c3, by simpa using h.f1, by simpa using h.f2, by simpa using h.f3⟩
/-- The model's samples: a slice that fits, in no block of the model's own, nor the window's. -/
structure Ml (w : World) (mb b : Nat) (ao : Option Addr) (n cap : Nat) (l : List Smp) : Prop where
  s : Ms w ao n l
  le : n ≤ cap
  no : ao = none → n = 0 ∧ cap = 0
  ne : ∀ a, ao = some a → a.block ≠ mb ∧ a.block ≠ b ∧ a.spot = none
theorem Ml.kept {w w' : World} {mb b : Nat} {ao : Option Addr} {n cap : Nat} {l : List Smp} (h : Ml w mb b ao n cap l) {row : Option Nat} (hg : w.grownBy w' row) (hr : row = none ∨ row = some mb ∨ row = some b) : Ml w' mb b ao n cap l :=
  ⟨h.s.kept hg (fun a e _ => by
    have := h.ne a e
    rcases hr with rfl | rfl | rfl
    · simp
    · intro e2; injection e2 with e2; exact this.1 e2
    · intro e2; injection e2 with e2; exact this.2.1 e2), h.le, h.no, h.ne⟩
theorem Ml.later {w w' : World} {mb b : Nat} {ao : Option Addr} {n cap : Nat} {l : List Smp} (h : Ml w mb b ao n cap l) (hb : Below w.heap.size w w') : Ml w' mb b ao n cap l := h.kept (grown_below hb none) (Or.inl rfl)
/-- The first one off. -/
theorem Ml.tail {w : World} {mb b vb off n cap : Nat} {s : Smp} {r : List Smp} (h : Ml w mb b (some ⟨vb, off, none⟩) n cap (s :: r)) (ao : Option Addr) (hao : ao = some ⟨vb, off + 3, none⟩ ∨ (n = 1 ∧ ao = some ⟨vb, off, none⟩)) : Ml w mb b ao (n - 1) (cap - 1) r := by
  have hl : r.length + 1 = n := h.s.1
  have hle := h.le
  refine ⟨⟨by omega, fun hp => ?_⟩, by omega, ?_, ?_⟩
  · obtain ⟨b2, o2, e, hc⟩ := h.s.2 (by omega)
    injection e with e
    injection e with e1 e2
    subst e1 e2
    rcases hao with rfl | ⟨h1, _⟩
    · refine ⟨_, _, rfl, fun j hj => ?_⟩
      have := hc (j + 1) (by omega)
      rw [show off + (j + 1) * 3 = off + 3 + j * 3 by omega] at this
      exact this
    · omega
  · intro e
    rcases hao with rfl | ⟨_, rfl⟩ <;> cases e
  · intro a e
    have := h.ne _ rfl
    rcases hao with rfl | ⟨_, rfl⟩
    · injection e with e; subst e; exact this
    · injection e with e; subst e; exact this
/-- How many the model has. -/
def lenW (w : World) (mb : Nat) : Nat := match w.cell? ⟨mb, 3, none⟩ with
  | some (.slice _ n _) => n
  | _ => 0
theorem Md.len {w : World} {mb : Nat} {k now last : Int} {ao : Option Addr} {n c : Nat} (h : Md w mb k now last (.slice ao n c)) : lenW w mb = n := by
  unfold lenW
  rw [h.c3]
set_option maxHeartbeats 4000000 in
theorem madv_any (mb b : Nat) (k now last n : Int) (ao : Option Addr) (len cap : Nat) (l : List Smp) (w : World) (hm : Md w mb k now last (.slice ao len cap)) (hl : Ml w mb b ao len cap l) (hw : Wf l k now) :
    Calls Try.prog 11 #[.pointer (some ⟨mb, 0, none⟩), .int .i64 n] w fun e w' => e = .returned (.tuple #[]) ∧ (∃ ao' len' cap', Md w' mb k (onw now n) last (.slice ao' len' cap') ∧ Ml w' mb b ao' len' cap' (fg (onw now n - k) l)) ∧ w.grownBy w' (some mb) := by
  have hrg := onw_range n hw.n1
  have hk := hw.k1
  have e1 : wrap64 (onw now n - k) = onw now n - k := wf64 (by omega) (by omega)
  have H2 := hm.setN (onw now n)
  have h3 : Ml (w.setCell ⟨mb, 1, none⟩ (.int .i64 (onw now n))) mb b ao len cap l := hl.kept (grown_set _ _ _ _) (Or.inr (Or.inl rfl))
  have hg := grown_set w mb 1 (.int .i64 (onw now n))
  have hlen : l.length ≤ 100 := hw.le
  obtain ⟨c0, c1, c2, c3, f1, f2, f3⟩ := id hm
  have HO : Hid (onw now n = max now (min n 1000000)) := rfl
  unfold onw at H2 h3 hg e1
  go_enter Try.func11, Try.ntmps11
  go_wp2_with fail
  generalize max now (min n 1000000) = nw at *
  generalize w.setCell ⟨mb, 1, none⟩ (.int .i64 nw) = wa at *
  clear c0 c1 c2 c3 f1 f2 f3 hm hl hrg
  go_loopw [] (fun wr => ∃ (ao' : Option Addr) (n' cap' : Nat) (r : List Smp), Md wr mb k nw last (.slice ao' n' cap') ∧ Ml wr mb b ao' n' cap' r ∧ Hid (fg (nw - k) r = fg (nw - k) l ∧ r.length ≤ 100) ∧ w.grownBy wr (some mb)) (fun wr => lenW wr mb)
  case atStart => exact ⟨ao, len, cap, l, H2, h3, ⟨rfl, hlen⟩, hg⟩
  case round =>
    obtain ⟨ao', n', cap', r, hmd, hml, HG, hgr⟩ := hrel
    obtain ⟨c0, c1, c2, c3, f1, f2, f3⟩ := id hmd
    cases r with
    | nil =>
      obtain rfl : n' = 0 := hml.s.1.symm
      go_wp2_with fail
      go_quiet (fail)
      go_wp2
      go_end0
      exact ⟨rfl, ⟨ao', 0, cap', by rw [HO.out]; exact hmd.later (below_drewN (Below.refl _ _) _), by rw [HO.out, ← HG.out.1]; exact hml.later (below_drewN (Below.refl _ _) _)⟩, hgr.trans (grown_below (below_drewN (Below.refl _ _) _) _)⟩
    | cons s r =>
      have hn1 : r.length + 1 = n' := hml.s.1
      obtain ⟨vb, off, rfl, hcc⟩ := hml.s.2 (by omega)
      obtain ⟨x0, _, _⟩ := hcc 0 (by omega)
      rw [Nat.zero_mul, Nat.add_zero] at x0
      have x0' : wr.cell? ⟨vb, off, none⟩ = some (.int .i64 s.1) := x0
      have hle := hml.le
      have d0 : decide ((0 : Int) < (n' : Int)) = true := decide_eq_true (by omega)
      have hnl : n' ≤ 100 := by have := HG.out.2; rw [List.length_cons] at this; omega
      have hm' := hmd.len
      clear hcc x0
      by_cases ht : s.1 ≤ nw - k
      · have d1 : decide (s.1 ≤ nw - k) = true := decide_eq_true ht
        have HN : Hid (fg (nw - k) r = fg (nw - k) l ∧ r.length ≤ 100) := ⟨by rw [← HG.out.1]; show _ = if s.1 ≤ nw - k then fg (nw - k) r else s :: r; rw [if_pos ht], by omega⟩
        have hn0 : 0 < n' := by omega
        clear ht HG
        go_wp2_with fail
        go_quiet (fail)
        go_wp2_with fail
        have hA : (if cap' = 1 then some (⟨vb, off, none⟩ : Addr) else some ⟨vb, off + 3, none⟩) = some ⟨vb, off + 3, none⟩ ∨ (n' = 1 ∧ (if cap' = 1 then some (⟨vb, off, none⟩ : Addr) else some ⟨vb, off + 3, none⟩) = some ⟨vb, off, none⟩) := by
          by_cases hc1 : cap' = 1
          · rw [if_pos hc1]
            exact Or.inr ⟨by omega, rfl⟩
          · rw [if_neg hc1]
            exact Or.inl rfl
        have hd2 := hmd.later (below_drewN (Below.refl _ wr) nq)
        refine ⟨⟨_, n' - 1, cap' - 1, r, hd2.setV _, ((hml.tail _ hA).later (below_drewN (Below.refl _ wr) nq)).kept (grown_set _ _ _ _) (Or.inr (Or.inl rfl)), HN, (hgr.trans (grown_below (below_drewN (Below.refl _ wr) nq) _)).trans (grown_set _ _ _ _)⟩, ?_⟩
        rw [(hd2.setV _).len, hm']
        omega
      · have d1 : decide (s.1 ≤ nw - k) = false := decide_eq_false ht
        have HN : Hid (s :: r = fg (nw - k) l) := by rw [← HG.out.1]; show s :: r = if s.1 ≤ nw - k then fg (nw - k) r else s :: r; rw [if_neg ht]
        have hn0 : 0 < n' := by omega
        clear ht HG
        go_wp2_with fail
        go_quiet (fail)
        go_wp2
        go_end0
        exact ⟨rfl, ⟨_, n', cap', by rw [HO.out]; exact hmd.later (below_drewN (Below.refl _ _) _), by rw [HO.out, ← HN.out]; exact hml.later (below_drewN (Below.refl _ _) _)⟩, hgr.trans (grown_below (below_drewN (Below.refl _ _) _) _)⟩
end Go.Proofs.Ytchopogodfghoaa
