/- The law's own model of a window: what it knows, and a sample added, whatever it answers. -/
import Derived.Test.YtchopogodfghoaaRMadd
namespace Go.Proofs.Ytchopogodfghoaa
open Go.RowKit

/-! ### What the law's own model knows -/
/-- The last one's time, as the law keeps it: that of the last one that was added. -/
structure Pv (la : Int) (l : List Smp) (k nw : Int) : Prop where
  p1 : l ≠ [] → la = (lst l).1
  p2 : l = [] → la ≤ nw - k ∨ la < 0
  p3 : ∀ s ∈ l, nrm s = s
  p4 : la ≤ 1000000
theorem fg_lst (t : Int) : ∀ l : List Smp, fg t l ≠ [] → lst (fg t l) = lst l
  | [], h => absurd rfl h
  | s :: r, h => by
    by_cases e : s.1 ≤ t
    · have e1 : fg t (s :: r) = fg t r := by show (if s.1 ≤ t then _ else _) = _; rw [if_pos e]
      rw [e1] at h ⊢
      rw [fg_lst t r h]
      cases r with
      | nil => exact absurd rfl h
      | cons a q => rfl
    · have e1 : fg t (s :: r) = s :: r := by show (if s.1 ≤ t then _ else _) = _; rw [if_neg e]
      rw [e1]
theorem fg_gone (t : Int) : ∀ l : List Smp, fg t l = [] → l ≠ [] → (lst l).1 ≤ t
  | [], _, h => absurd rfl h
  | s :: r, h, _ => by
    by_cases e : s.1 ≤ t
    · have e1 : fg t (s :: r) = fg t r := by show (if s.1 ≤ t then _ else _) = _; rw [if_pos e]
      rw [e1] at h
      cases r with
      | nil => exact e
      | cons a q => exact fg_gone t (a :: q) h (by intro e; cases e)
    · have e1 : fg t (s :: r) = s :: r := by show (if s.1 ≤ t then _ else _) = _; rw [if_neg e]
      rw [e1] at h
      cases h
theorem Pv.adv {la : Int} {l : List Smp} {k nw : Int} (h : Pv la l k nw) (hw : Wf l k nw) (n : Int) : Pv la (fg (onw nw n - k) l) k (onw nw n) := by
  have hr := onw_range n hw.n1
  refine ⟨fun hn => ?_, fun hn => ?_, fun s hs => h.p3 s ((fg_sub _ l).subset hs), h.p4⟩
  · rw [fg_lst _ _ hn]
    exact h.p1 (fun e => hn (by rw [e]; rfl))
  · by_cases e : l = []
    · rcases h.p2 e with h1 | h1
      · exact Or.inl (by omega)
      · exact Or.inr h1
    · rw [h.p1 e]
      exact Or.inl (fg_gone _ _ hn e)
theorem Pv.same {la : Int} {l : List Smp} {k nw : Int} (h : Pv la l k nw) {t : Int} (ho : ¬ (t < 0 ∨ nw < t ∨ t ≤ nw - k)) : (l ≠ [] ∧ t ≤ (lst l).1) ↔ t ≤ la := by
  constructor
  · rintro ⟨h1, h2⟩
    rw [h.p1 h1]
    exact h2
  · intro h1
    by_cases e : l = []
    · rcases h.p2 e with h2 | h2 <;> omega
    · exact ⟨e, by rw [← h.p1 e]; exact h1⟩
theorem Pv.snoc {la : Int} {l : List Smp} {k nw : Int} (h : Pv la l k nw) (s : Smp) (hs : nrm (nrm s) = nrm s) (hm : s.1 ≤ 1000000) : Pv s.1 (l ++ [nrm s]) k nw := by
  refine ⟨fun _ => by rw [lst_snoc]; rfl, fun e => by simp at e, fun x hx => ?_, hm⟩
  rcases List.mem_append.1 hx with e | e
  · exact h.p3 x e
  · rw [List.mem_singleton.1 e]
    exact hs
theorem nrm_nrm (s : Smp) (h : R64 s.2.2) : nrm (nrm s) = nrm s := by
  show ((nrm s).1, ov (cnt (nrm s).2.1 (nrm s).2.2), nn (cnt (nrm s).2.1 (nrm s).2.2)) = _
  have : cnt (nrm s).2.1 (nrm s).2.2 = cnt s.2.1 s.2.2 := cnt_val (V.cnt h.1 h.2)
  rw [this]
  rfl
theorem clamp_eq (n : Int) : max 1 (min n 100) = clamp n := by unfold clamp; split <;> (try split) <;> omega

set_option maxHeartbeats 8000000 in
theorem madd_old (mb : Nat) (k now last : Int) (v : Value) (s : Smp) (w : World) (hm : Md w mb k now last v) (hk : 1 ≤ k ∧ k ≤ 100) (hn : 0 ≤ now ∧ now ≤ 1000000) (ho : ¬ (s.1 < 0 ∨ now < s.1 ∨ s.1 ≤ now - k)) (hlast : s.1 ≤ last) :
    Calls Try.prog 13 #[.pointer (some ⟨mb, 0, none⟩), sv s] w fun e w' => e = .returned (.int .i64 150) ∧ Below w.heap.size w w' := by
  have hb1 := bal (Below.refl _ w) (.cells #[.int .i64 s.1, .bool s.2.1, .int .i64 s.2.2] 38)
  have hm1 := hm.later hb1
  have hx := BoxS.new w s
  have e1 : wrap64 (now - k) = now - k := wf64 (by omega) (by omega)
  have d1 : decide (s.1 < 0) = false := decide_eq_false (by omega)
  have d2 : decide (now < s.1) = false := decide_eq_false (by omega)
  have d3 : decide (s.1 ≤ now - k) = false := decide_eq_false (by omega)
  have d4 : decide (s.1 ≤ last) = true := decide_eq_true hlast
  obtain ⟨c0, c1, c2, _, _, _, _⟩ := id hm1
  clear hm ho hlast
  obtain ⟨t, o, n⟩ := s
  dsimp only at *
  go_enter Try.func13, Try.ntmps13
  go_wp2_with fail
  go_quiet (fail)
  generalize hwq : (w.alloc (.cells #[.int .i64 t, .bool o, .int .i64 n] 38)).drewN _ = wa
  have hba : Below w.heap.size w wa := by rw [← hwq]; exact below_drewN hb1 _
  have hma : Md wa mb k now last v := by rw [← hwq]; exact hm1.later (below_drewN (Below.refl _ _) _)
  have hxa : BoxS wa w.heap.size (t, o, n) := by rw [← hwq]; exact hx.later (below_drewN (Below.refl _ _) _)
  clear hwq hm1 hx hb1 c0 c1 c2
  obtain ⟨c0, c1, c2, c3, f1, f2, f3⟩ := id hma
  obtain ⟨x0, x1, x2, _, _, _⟩ := id hxa
  go_wp2_with fail
  go_quiet (fail)
  go_wp2
  go_ret
  exact ⟨rfl, below_drewN hba _⟩
theorem madd_all (mb b : Nat) (k now last : Int) (ao : Option Addr) (len cap : Nat) (l : List Smp) (s : Smp) (w : World) (hm : Md w mb k now last (.slice ao len cap)) (hl : Ml w mb b ao len cap l) (hbl : b < w.heap.size) (hw : Wf l k now) (hp : Pv last l k now) (hr : R64 s.2.2) :
    Calls Try.prog 13 #[.pointer (some ⟨mb, 0, none⟩), sv s] w fun e w' => e = .returned (.int .i64 (adE l k now s.1)) ∧ (∃ last' ao' len' cap', Md w' mb k now last' (.slice ao' len' cap') ∧ Ml w' mb b ao' len' cap' (adL l k now s) ∧ Pv last' (adL l k now s) k now) ∧ w.grownBy w' (some mb) := by
  have hk := hw.k1
  have hn := hw.n1
  by_cases ho : s.1 < 0 ∨ now < s.1 ∨ s.1 ≤ now - k
  · have e := adE_out (l := l) ho
    refine (madd_out mb k now last _ s w hm hk hn ho).mono fun e' w' ⟨h1, h2⟩ => ⟨by rw [h1, e], ?_, grown_below h2 _⟩
    have eL : adL l k now s = l := by unfold adL; rw [e]; rfl
    rw [eL]
    exact ⟨last, ao, len, cap, hm.later h2, hl.later h2, hp⟩
  · by_cases hlast : s.1 ≤ last
    · have e := adE_old ho ((hp.same ho).2 hlast)
      refine (madd_old mb k now last _ s w hm hk hn ho hlast).mono fun e' w' ⟨h1, h2⟩ => ⟨by rw [h1, e], ?_, grown_below h2 _⟩
      have eL : adL l k now s = l := by unfold adL; rw [e]; rfl
      rw [eL]
      exact ⟨last, ao, len, cap, hm.later h2, hl.later h2, hp⟩
    · have e := adE_ok ho (fun h => hlast ((hp.same ho).1 h))
      refine (madd_in mb b k now last ao len cap l s w hm hl hbl hk hn (by have := hw.le; omega) hr ho hlast).mono fun e' w' ⟨h1, ⟨ao', len', cap', h2, h3⟩, h4⟩ => ⟨by rw [h1, e], ?_, h4⟩
      have eL : adL l k now s = l ++ [nrm s] := by unfold adL; rw [e, if_pos rfl]
      rw [eL]
      exact ⟨s.1, ao', len', cap', h2, h3, hp.snoc s (nrm_nrm s hr) (by omega)⟩
end Go.Proofs.Ytchopogodfghoaa
