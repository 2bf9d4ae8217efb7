/- SeriesOver, in plain words: one series at rising times. -/
import Derived.Test.YtjgckfcocmhnhaaGreatDoorMZ
import Derived.Test.YtjgckfcocmhnhaaGreatDoorMY
namespace Go.Proofs.YtjgckfcocmhnhaaGreatDoor.Sr
open Go.RowKit Rn

def oq : List Lb.Pr := [([97], [98])]
theorem oq_is : Lb.fIs oq = true := by decide +kernel
theorem oq_cmp : Lb.fCmp oq oq = 0 := by decide +kernel
theorem oq_no : hasL oq [] = false := by decide +kernel
theorem oq_fit : Lb.Fit oq := by
  intro p hp
  cases List.mem_singleton.1 hp
  exact ⟨by decide, by decide⟩
theorem oq_pos (l : List Smp) : posL oq [(oq, l)] = 0 := by simp [posL, oq_cmp]
theorem oq_has (l : List Smp) : hasL oq [(oq, l)] = true := by simp [hasL, oq_pos, oq_cmp]
theorem oq_smp (l : List Smp) : smpL oq [(oq, l)] = l := by simp [smpL, oq_has, oq_pos]
/-- One series whose last sample is of time t, the others' elder. -/
def O1 (t : Int) (l : List Smp) : Prop := ∃ l0 s, l = l0 ++ [s] ∧ s.1 = t ∧ ∀ x ∈ l0, x.1 < t
theorem fg_snoc (c : Int) (s : Smp) (h : c < s.1) : ∀ l0 : List Smp, ∃ l1, fg c (l0 ++ [s]) = l1 ++ [s] ∧ ∀ x ∈ l1, x ∈ l0
  | [] => ⟨[], by show (if s.1 ≤ c then _ else _) = _; rw [if_neg (by omega)]; rfl, fun x hx => by cases hx⟩
  | y :: l0 => by
    obtain ⟨l1, h1, h2⟩ := fg_snoc c s h l0
    rw [List.cons_append]
    unfold fg
    split
    · exact ⟨l1, h1, fun x hx => List.mem_cons_of_mem _ (h2 x hx)⟩
    · exact ⟨y :: l0, rfl, fun x hx => hx⟩
theorem O1.adv {t : Int} {l : List Smp} (h : O1 t l) {n : Int} (hn : n < t + 100) : ∃ l', advL n [(oq, l)] = [(oq, l')] ∧ O1 t l' := by
  obtain ⟨l0, s, rfl, hs, hl⟩ := h
  obtain ⟨l1, h1, h2⟩ := fg_snoc (n - 100) s (by omega) l0
  refine ⟨l1 ++ [s], ?_, l1, s, rfl, hs, fun x hx => hl x (h2 x hx)⟩
  unfold advL
  simp [h1]
theorem O1.e {t : Int} {l : List Smp} (h : O1 t l) {n : Int} (hn : t < n) (h0 : 0 ≤ n) : addEL n [(oq, l)] oq n = 0 := by
  obtain ⟨l0, s, rfl, hs, hl⟩ := h
  unfold addEL
  rw [if_neg (by rw [oq_is]; decide), if_pos (oq_has _), oq_smp]
  unfold adE
  rw [if_neg (by omega), if_neg (by rw [lst_snoc]; omega)]
theorem O1.add {t : Int} {l : List Smp} (h : O1 t l) {s : Smp} (hn : t < s.1) (h0 : 0 ≤ s.1) : ∃ l', addLL s.1 [(oq, l)] oq s = [(oq, l')] ∧ O1 s.1 l' := by
  have e := h.e hn h0
  obtain ⟨l0, x, rfl, hx, hl⟩ := h
  refine ⟨l0 ++ [x] ++ [nrm s], ?_, l0 ++ [x], nrm s, rfl, rfl, fun y hy => ?_⟩
  · unfold addLL
    rw [if_neg (by rw [e]; decide), if_pos (oq_has _), oq_smp, oq_pos]
    rfl
  · rcases List.mem_append.1 hy with hy | hy
    · have := hl y hy
      omega
    · rw [List.mem_singleton.1 hy]
      omega
theorem o_e0 {n : Int} (h0 : 0 ≤ n) : addEL n [] oq n = 0 := by
  have e : adE [] 100 n n = 0 := by unfold adE; rw [if_neg (by omega), if_neg (by simp)]
  unfold addEL
  rw [if_neg (by rw [oq_is]; decide), if_neg (by rw [oq_no]; decide), if_neg (by rw [e]; decide), if_neg (by decide)]
theorem o_add0 {s : Smp} (h0 : 0 ≤ s.1) : ∃ l', addLL s.1 [] oq s = [(oq, l')] ∧ O1 s.1 l' := by
  refine ⟨[nrm s], ?_, [], nrm s, rfl, rfl, fun x hx => by cases hx⟩
  unfold addLL
  rw [if_neg (by rw [o_e0 h0]; decide), if_neg (by rw [oq_no]; decide)]
  rfl
/-- What a window takes is among what is there. -/
theorem addAll_mem (k now : Int) : ∀ (l a : List Smp) (x : Smp), x ∈ addAll k now a l → x ∈ a ∨ ∃ y ∈ l, x.1 = y.1
  | [], a, x, h => Or.inl h
  | s :: l, a, x, h => by
    have h' : x ∈ addAll k now (adL a k now s) l := h
    rcases addAll_mem k now l _ x h' with h1 | ⟨y, hy, e⟩
    · unfold adL at h1
      split at h1
      · rcases List.mem_append.1 h1 with h2 | h2
        · exact Or.inl h2
        · exact Or.inr ⟨s, List.mem_cons_self .., by rw [List.mem_singleton.1 h2]; rfl⟩
      · exact Or.inl h1
    · exact Or.inr ⟨y, List.mem_cons_of_mem _ hy, e⟩
theorem O1.win {t : Int} {l : List Smp} (h : O1 t l) {k : Int} (hk : 0 < k) (h0 : 0 ≤ t) : addAll k t [] l ≠ [] := by
  obtain ⟨l0, s, rfl, hs, hl⟩ := h
  rw [addAll_snoc]
  unfold adL
  rw [if_pos]
  · simp
  · unfold adE
    rw [if_neg (by omega), if_neg]
    rintro ⟨h1, h2⟩
    rcases addAll_mem k t l0 [] _ (lst_mem h1) with h3 | ⟨y, hy, e⟩
    · cases h3
    · have := hl y hy
      omega
/-- One series, or none yet. -/
def O0 (i : Nat) (t : Int) (L : HL) : Prop := (i = 0 ∧ L = [] ∧ t = 0) ∨ ∃ l, L = [(oq, l)] ∧ O1 t l
theorem O0.step {i : Nat} {t : Int} {L : HL} (h : O0 i t L) (h0 : 0 ≤ t) {n : Int} (hn : t < n) (hn4 : n ≤ t + 4) (v : Bool × Int) :
    ∃ L', advL n L = L' ∧ addEL n L' oq n = 0 ∧ ∃ L'', addLL n L' oq (n, v) = L'' ∧ O0 (i + 1) n L'' := by
  rcases h with ⟨_, rfl, rfl⟩ | ⟨l, rfl, hl⟩
  · obtain ⟨l', h1, h2⟩ := o_add0 (s := (n, v)) (by show 0 ≤ n; omega)
    exact ⟨[], rfl, o_e0 (by omega), _, h1, Or.inr ⟨l', rfl, h2⟩⟩
  · obtain ⟨l1, e1, h1⟩ := hl.adv (n := n) (by omega)
    obtain ⟨l2, e2, h2⟩ := h1.add (s := (n, v)) (by show t < n; omega) (by show 0 ≤ n; omega)
    exact ⟨_, e1, h1.e hn (by omega), _, e2, Or.inr ⟨l2, rfl, h2⟩⟩
end Go.Proofs.YtjgckfcocmhnhaaGreatDoor.Sr
