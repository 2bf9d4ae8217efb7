/- SeriesApart: what eight series hold, and a store beside an array. -/
import Derived.Test.YtjgckfcocmhnhaaGreatDoorSApPl
namespace Go.Proofs.YtjgckfcocmhnhaaGreatDoor.Sr
open Go.RowKit Rn

def sm (x : Nat) : Smp := ((x : Int), false, (((x + 1) * 1000000 : Nat) : Int))
/-- What series j holds behind n samples; its last time and one. -/
def fS (ks : Nat → Nat) (n j : Nat) : List Smp := ((List.range n).filter fun x => decide (ks x = j)).map sm
def lN (ks : Nat → Nat) : Nat → Nat → Nat
  | 0, _ => 0
  | n + 1, j => if ks n = j then n + 1 else lN ks n j
theorem fS_yes {ks : Nat → Nat} {n j : Nat} (h : ks n = j) : fS ks (n + 1) j = fS ks n j ++ [sm n] := by
  unfold fS
  rw [List.range_succ, List.filter_append, List.map_append]
  simp [h]
theorem fS_no {ks : Nat → Nat} {n j : Nat} (h : ks n ≠ j) : fS ks (n + 1) j = fS ks n j := by
  unfold fS
  rw [List.range_succ, List.filter_append]
  simp [h]
theorem fS_upd (ks : Nat → Nat) (n : Nat) : fS ks (n + 1) = upd (fS ks n) (ks n) (sm n) := by
  funext j
  unfold upd
  by_cases h : j = ks n
  · rw [if_pos h, fS_yes h.symm, h]
  · rw [if_neg h, fS_no (fun e => h e.symm)]
theorem fS_mem {ks : Nat → Nat} {n j : Nat} {s : Smp} (h : s ∈ fS ks n j) : ∃ x, x < n ∧ s = sm x := by
  unfold fS at h
  obtain ⟨x, hx, rfl⟩ := List.mem_map.1 h
  exact ⟨x, List.mem_range.1 (List.mem_filter.1 hx).1, rfl⟩
theorem ap_e (ks : Nat → Nat) (i k : Nat) : adE (fS ks i k) 100 i i = 0 := by
  unfold adE
  rw [if_neg (by omega), if_neg]
  rintro ⟨h1, h2⟩
  obtain ⟨x, hx, e⟩ := fS_mem (lst_mem h1)
  rw [e] at h2
  have h2 : (i : Int) ≤ (x : Int) := h2
  omega
theorem ap_fg (ks : Nat → Nat) (n j : Nat) {t : Int} (ht : t < 100) : fg (t - 100) (fS ks n j) = fS ks n j := by
  cases h : fS ks n j with
  | nil => rfl
  | cons s r =>
    obtain ⟨x, hx, e⟩ := fS_mem (j := j) (ks := ks) (n := n) (s := s) (by rw [h]; exact List.mem_cons_self ..)
    subst e
    unfold fg
    rw [if_neg (by show ¬ ((x : Int) ≤ t - 100); omega)]
theorem sm_nrm : ∀ x, x < 80 → nrm (sm x) = sm x := by decide +kernel
theorem sm_of : ∀ x : Nat, x < 81 → fOf (x : Int) = some ((x * 1000000 : Nat) : Int) := by decide +kernel
theorem lN_le (ks : Nat → Nat) (n j : Nat) : lN ks n j ≤ n := by
  induction n with
  | zero => exact Nat.le_refl _
  | succ n ih =>
    show (if ks n = j then n + 1 else lN ks n j) ≤ n + 1
    split <;> omega
/-- The latest of a series that is in reach. -/
theorem ap_last (ks : Nat → Nat) (i j : Nat) (hi : i < 80) : ∀ n, n ≤ i + 1 → (∀ s ∈ addAll 10 i [] (fS ks n j), ∃ x, x < n ∧ s = sm x) ∧
    (if 0 < lN ks n j ∧ i < lN ks n j - 1 + 10 then addAll 10 i [] (fS ks n j) ≠ [] ∧ lst (addAll 10 i [] (fS ks n j)) = sm (lN ks n j - 1) else addAll 10 i [] (fS ks n j) = []) := by
  intro n
  induction n with
  | zero =>
    intro _
    refine ⟨?_, ?_⟩
    · intro s hs
      cases hs
    · rw [if_neg (by show ¬ (0 < 0 ∧ _); omega)]
      rfl
  | succ n ih =>
    intro hn
    obtain ⟨h1, h2⟩ := ih (by omega)
    by_cases hk : ks n = j
    · have e1 : lN ks (n + 1) j = n + 1 := by show (if ks n = j then n + 1 else lN ks n j) = n + 1; rw [if_pos hk]
      have hle := lN_le ks n j
      rw [fS_yes hk, addAll_snoc, e1]
      generalize addAll 10 i [] (fS ks n j) = A at *
      by_cases hr : i < n + 10
      · have e2 : adE A 10 i (sm n).1 = 0 := by
          unfold adE
          rw [if_neg (by show ¬ ((n : Int) < 0 ∨ (i : Int) < (n : Int) ∨ (n : Int) ≤ (i : Int) - 10); omega), if_neg]
          rintro ⟨g1, g2⟩
          obtain ⟨x, hx, e⟩ := h1 _ (lst_mem g1)
          rw [e] at g2
          have g2 : (n : Int) ≤ (x : Int) := g2
          omega
        have e3 : adL A 10 i (sm n) = A ++ [sm n] := by
          unfold adL
          rw [if_pos e2, sm_nrm n (by omega)]
        rw [e3, if_pos (by omega)]
        refine ⟨?_, by simp, by rw [lst_snoc]; rfl⟩
        intro s hs
        rcases List.mem_append.1 hs with h | h
        · obtain ⟨x, hx, e⟩ := h1 s h
          exact ⟨x, by omega, e⟩
        · exact ⟨n, by omega, List.mem_singleton.1 h⟩
      · have e2 : adE A 10 i (sm n).1 = 152 := by
          unfold adE
          rw [if_pos (by show ((n : Int) < 0 ∨ (i : Int) < (n : Int) ∨ (n : Int) ≤ (i : Int) - 10); omega)]
        have e3 : adL A 10 i (sm n) = A := by
          unfold adL
          rw [e2]
          rfl
        rw [if_neg (by omega)] at h2
        rw [e3, if_neg (by omega)]
        refine ⟨?_, h2⟩
        intro s hs
        obtain ⟨x, hx, e⟩ := h1 s hs
        exact ⟨x, by omega, e⟩
    · have e1 : lN ks (n + 1) j = lN ks n j := by show (if ks n = j then n + 1 else lN ks n j) = _; rw [if_neg hk]
      rw [fS_no hk, e1]
      refine ⟨?_, h2⟩
      intro s hs
      obtain ⟨x, hx, e⟩ := h1 s hs
      exact ⟨x, by omega, e⟩
/-- An array of eight numbers. -/
structure A8 (w : World) (ab : Nat) (m : Nat → Nat) : Prop where
  t : Ty w ab 58
  c : ∀ j, j < 8 → w.cell? ⟨ab, j, none⟩ = some (.int .i64 (m j : Int))
  f : ∀ j, j < 8 → w.frozen? ⟨ab, j, none⟩ = false
theorem A8.later {w w' : World} {ab : Nat} {m : Nat → Nat} (h : A8 w ab m) (hb : Below w.heap.size w w') : A8 w' ab m :=
  ⟨h.t.later hb, fun j hj => grown_cell (grown_below hb none) (h.c j hj) (by simp), fun j hj => grown_frozen (grown_below hb none) h.t.lt (h.f j hj) (by simp)⟩
theorem So.row {w w' : World} {sb : Nat} {now : Int} {F : Nat → Prop} {L : HL} {ab : Nat} (h : So w sb now F L) (hg : w.grownBy w' (some ab)) (hF : ¬ F ab) (ht : ¬ Ty w ab 45) : So w' sb now F L := by
  obtain ⟨base, ao, n, cap, rs, h1, h2, h3, h4, h5, h6⟩ := h
  refine ⟨base, ao, n, cap, rs, h1.kept hg (fun k hk e => ?_), Nat.le_trans h2 hg.size, h3, h4, h5, h6⟩
  injection e with e
  subst e
  rcases hk with hk | hk
  · exact hF (h5 _ hk)
  · exact ht hk
/-- A store, made since w0, and an array that it does not reach. -/
def S4 (w0 w : World) (sb : Nat) (now : Int) (L : HL) (ab : Nat) (m : Nat → Nat) : Prop :=
  ∃ F, So w sb now F L ∧ A8 w ab m ∧ ¬ F ab ∧ (∀ k, F k → w0.heap.size ≤ k) ∧ Below w0.heap.size w0 w ∧ w0.heap.size ≤ ab
theorem S4.later {w0 w w' : World} {sb : Nat} {now : Int} {L : HL} {ab : Nat} {m : Nat → Nat} (h : S4 w0 w sb now L ab m) (hb : Below w.heap.size w w') : S4 w0 w' sb now L ab m := by
  obtain ⟨F, h1, h2, h3, h4, h5, h6⟩ := h
  exact ⟨F, h1.later hb, h2.later hb, h3, h4, Below.chain h5 hb, h6⟩
theorem S4.b {w0 w : World} {sb : Nat} {now : Int} {L : HL} {ab : Nat} {m : Nat → Nat} (h : S4 w0 w sb now L ab m) : Below w0.heap.size w0 w := by
  obtain ⟨F, _, _, _, _, h5, _⟩ := h
  exact h5
theorem S4.a {w0 w : World} {sb : Nat} {now : Int} {L : HL} {ab : Nat} {m : Nat → Nat} (h : S4 w0 w sb now L ab m) : A8 w ab m := by
  obtain ⟨F, _, h2, _⟩ := h
  exact h2
theorem A8.gf {w w' : World} {ab : Nat} {m : Nat → Nat} {F : Nat → Prop} (h : A8 w ab m) (hg : Gf w w' F) (hF : ¬ F ab) : A8 w' ab m := by
  refine ⟨h.t.gf hg hF, fun j hj => hg.cell (h.c j hj) hF, fun j hj => ?_⟩
  have hb := hg.block ab h.t.lt hF
  have hf := h.f j hj
  unfold World.frozen? at hf ⊢
  rw [hb]
  exact hf
theorem s4_adv {w0 w : World} {sb : Nat} {now : Int} {L : HL} {ab : Nat} {m : Nat → Nat} (h : S4 w0 w sb now L ab m) (t : Int) {t' : Int} {L' : HL} (h1 : onw now t = t') (h2 : advL t' L = L') :
    Calls Tryz.prog 11 #[.pointer (some ⟨sb, 0, none⟩), .int .i64 t] w fun e w' => e = .returned (.tuple #[]) ∧ S4 w0 w' sb t' L' ab m := by
  obtain ⟨F, g1, g2, g3, g4, g5, g6⟩ := h
  refine (adv_so sb now F L t w g1).mono ?_
  rintro e w' ⟨k1, k2, k3⟩
  subst h1 h2
  exact ⟨k1, F, k2, g2.gf k3 g3, g3, g4, below_gf g5 k3 g4, g6⟩
theorem s4_add {w0 w : World} {sb : Nat} {now : Int} {L : HL} {ab : Nat} {m : Nat → Nat} (h : S4 w0 w sb now L ab m) {v : Value} {q : List Lb.Pr} (hq : Pq w v q) (hfit : Lb.Fit q) (s : Smp) (hr : R64 s.2.2) {e0 : Int} {L' : HL} (h1 : addEL now L q s.1 = e0) (h2 : addLL now L q s = L') :
    Calls Tryz.prog 13 #[.pointer (some ⟨sb, 0, none⟩), v, sv s] w fun e w' => e = .returned (.int .i64 e0) ∧ S4 w0 w' sb now L' ab m := by
  obtain ⟨F, g1, g2, g3, g4, g5, g6⟩ := h
  obtain ⟨xa, xn, xc, rfl, hxn, hps, ht⟩ := id hq
  refine (add_so sb now F L xa xn xc q s w g1 hq hfit hr).mono ?_
  rintro e w' ⟨k1, k2, k3⟩
  subst h1 h2
  refine ⟨k1, _, k2, g2.gf k3 g3, fun e => ?_, fun k hk => ?_, below_gf g5 k3 g4, g6⟩
  · have := g2.t.lt
    rcases e with e | e
    · exact g3 e
    · omega
  · rcases hk with hk | hk
    · exact g4 k hk
    · exact Nat.le_trans g5.size hk
theorem s4_last {w0 w : World} {sb : Nat} {now : Int} {L : HL} {ab : Nat} {m : Nat → Nat} (h : S4 w0 w sb now L ab m) {v : Value} {q : List Lb.Pr} (hq : Pq w v q) {l : List Smp} (hl : addAll 10 now [] (smpL q L) = l) :
    Calls Tryz.prog 25 #[.pointer (some ⟨sb, 0, none⟩), v] w fun e w' => e = .returned (.tuple #[sv (lst l), .bool (!l.isEmpty)]) ∧ S4 w0 w' sb now L ab m ∧ Below w.heap.size w w' := by
  obtain ⟨xa, xn, xc, rfl, hxn, hps, _⟩ := id hq
  obtain ⟨F, g1, g2⟩ := id h
  subst hl
  refine (last_so sb now F L xa xn xc q w g1 hxn hps).mono ?_
  rintro e w' ⟨k1, k2⟩
  exact ⟨k1, h.later k2, k2⟩
theorem s4_put {w0 w : World} {sb : Nat} {now : Int} {L : HL} {ab : Nat} {m : Nat → Nat} (h : S4 w0 w sb now L ab m) {k : Nat} (hk : k < 8) (n : Nat) : S4 w0 (w.setCell ⟨ab, k, none⟩ (.int .i64 (n : Int))) sb now L ab (fun j => if j = k then n else m j) := by
  obtain ⟨F, g1, g2, g3, g4, g5, g6⟩ := h
  have hg : w.grownBy (w.setCell ⟨ab, k, none⟩ (.int .i64 (n : Int))) (some ab) := grown_set _ _ _ _
  have hck := g2.c k hk
  refine ⟨F, g1.row hg g3 (fun e => ?_), ⟨?_, fun j hj => ?_, fun j hj => ?_⟩, g3, g4, ?_, g6⟩
  · exact e.ne g2.t (by decide) rfl
  · exact g2.t.set _ _
  · by_cases e : j = k
    · subst e
      rw [if_pos rfl]
      exact set_same hck
    · rw [if_neg e]
      exact (set_other (by intro x; injection x with _ x _; exact e x.symm)).trans (g2.c j hj)
  · simpa using g2.f j hj
  · exact g5.setCell (p := ⟨ab, k, none⟩) g6 _
end Go.Proofs.YtjgckfcocmhnhaaGreatDoor.Sr
