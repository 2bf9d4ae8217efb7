/- SeriesApart, in plain words: eight series, by their labels. -/
import Derived.Test.YtjgckfcocmhnhaaGreatDoorSMatch
namespace Go.Proofs.YtjgckfcocmhnhaaGreatDoor.Sr
open Go.RowKit Rn

theorem idx_app {α : Type} (p : α → Bool) (A X : List α) (hA : ∀ x ∈ A, p x = false) (hX : X = [] ∨ ∃ y Y, X = y :: Y ∧ p y = true) : (A ++ X).findIdx p = A.length := by
  induction A with
  | nil =>
    rcases hX with rfl | ⟨y, Y, rfl, hy⟩
    · rfl
    · simp [List.findIdx_cons, hy]
  | cons a A ih =>
    have ha : p a = false := hA a (List.mem_cons_self ..)
    rw [List.cons_append, List.findIdx_cons, ha, ih (fun x hx => hA x (List.mem_cons_of_mem _ hx))]
    rfl
/-- Eight series at most: those that hold samples. -/
def pcs (f : Nat → List Smp) (I : List Nat) : HL := (I.filter fun j => !(f j).isEmpty).map fun j => (mq j, f j)
def PL (f : Nat → List Smp) : HL := pcs f (List.range 8)
def mid (f : Nat → List Smp) (k : Nat) : HL := if (f k).isEmpty then [] else [(mq k, f k)]
def hi8 (k : Nat) : List Nat := List.range' (k + 1) (7 - k)
theorem ra8 : ∀ k, k < 8 → List.range 8 = List.range k ++ k :: hi8 k := by decide
theorem hi_mem {k j : Nat} (hk : k < 8) (h : j ∈ hi8 k) : k < j ∧ j < 8 := by
  unfold hi8 at h
  rw [List.mem_range'_1] at h
  omega
theorem cmp8a : ∀ k, k < 8 → ∀ j, j < k → Lb.fCmp (mq j) (mq k) < 0 := by decide +kernel
theorem cmp8b : ∀ k, k < 8 → ∀ j, j < 8 → k < j → 0 < Lb.fCmp (mq j) (mq k) := by decide +kernel
theorem cmp8c : ∀ k, k < 8 → Lb.fCmp (mq k) (mq k) = 0 := by decide +kernel
theorem fIs8 : ∀ k, k < 8 → Lb.fIs (mq k) = true := by decide +kernel
theorem pcs_append (f : Nat → List Smp) (a b : List Nat) : pcs f (a ++ b) = pcs f a ++ pcs f b := by
  unfold pcs
  rw [List.filter_append, List.map_append]
theorem pcs_cons (f : Nat → List Smp) (k : Nat) (b : List Nat) : pcs f (k :: b) = mid f k ++ pcs f b := by
  unfold pcs mid
  cases h : (f k).isEmpty <;> simp [h]
theorem PL_split (f : Nat → List Smp) {k : Nat} (hk : k < 8) : PL f = pcs f (List.range k) ++ (mid f k ++ pcs f (hi8 k)) := by
  unfold PL
  rw [ra8 k hk, pcs_append, pcs_cons]
theorem pcs_congr {f g : Nat → List Smp} {I : List Nat} (h : ∀ j ∈ I, f j = g j) : pcs f I = pcs g I := by
  unfold pcs
  have e : I.filter (fun j => !(f j).isEmpty) = I.filter fun j => !(g j).isEmpty := List.filter_congr fun j hj => by rw [h j hj]
  rw [e]
  exact List.map_congr_left fun j hj => by rw [h j (List.mem_filter.1 hj).1]
theorem PL_pos (f : Nat → List Smp) {k : Nat} (hk : k < 8) : posL (mq k) (PL f) = (pcs f (List.range k)).length := by
  rw [PL_split f hk]
  unfold posL
  refine idx_app _ _ _ (fun x hx => ?_) ?_
  · unfold pcs at hx
    obtain ⟨j, hj, rfl⟩ := List.mem_map.1 hx
    have := cmp8a k hk j (List.mem_range.1 (List.mem_filter.1 hj).1)
    exact decide_eq_false (by show ¬ 0 ≤ Lb.fCmp (mq j) (mq k); omega)
  · cases hz : mid f k ++ pcs f (hi8 k) with
    | nil => exact Or.inl rfl
    | cons y Y =>
      refine Or.inr ⟨y, Y, rfl, ?_⟩
      have hy : y ∈ mid f k ++ pcs f (hi8 k) := by rw [hz]; exact List.mem_cons_self ..
      rcases List.mem_append.1 hy with h | h
      · unfold mid at h
        split at h
        · cases h
        · cases List.mem_singleton.1 h
          exact decide_eq_true (by show 0 ≤ Lb.fCmp (mq k) (mq k); rw [cmp8c k hk]; exact Int.le_refl _)
      · unfold pcs at h
        obtain ⟨j, hj, rfl⟩ := List.mem_map.1 h
        obtain ⟨h1, h2⟩ := hi_mem hk (List.mem_filter.1 hj).1
        have := cmp8b k hk j h2 h1
        exact decide_eq_true (by show 0 ≤ Lb.fCmp (mq j) (mq k); omega)
theorem PL_has (f : Nat → List Smp) {k : Nat} (hk : k < 8) : hasL (mq k) (PL f) = !(f k).isEmpty := by
  unfold hasL
  rw [PL_pos f hk, PL_split f hk]
  generalize pcs f (List.range k) = A
  cases hz : (f k).isEmpty with
  | false =>
    have e : mid f k = [(mq k, f k)] := by unfold mid; rw [hz]; rfl
    rw [e]
    simp [cmp8c k hk]
  | true =>
    have e : mid f k = [] := by unfold mid; rw [hz]; rfl
    rw [e, List.nil_append]
    cases hy : pcs f (hi8 k) with
    | nil => simp
    | cons y Y =>
      have hm : y ∈ pcs f (hi8 k) := by rw [hy]; exact List.mem_cons_self ..
      unfold pcs at hm
      obtain ⟨j, hj, rfl⟩ := List.mem_map.1 hm
      obtain ⟨h1, h2⟩ := hi_mem hk (List.mem_filter.1 hj).1
      have := cmp8b k hk j h2 h1
      simp
      omega
theorem PL_smp (f : Nat → List Smp) {k : Nat} (hk : k < 8) : smpL (mq k) (PL f) = f k := by
  unfold smpL
  rw [PL_has f hk]
  cases hz : (f k).isEmpty with
  | true => rw [if_neg (by decide), List.isEmpty_iff.1 hz]
  | false =>
    rw [if_pos (by decide), PL_pos f hk, PL_split f hk]
    have e : mid f k = [(mq k, f k)] := by unfold mid; rw [hz]; rfl
    rw [e]
    simp
theorem PL_len (f : Nat → List Smp) : (PL f).length ≤ 8 := by
  unfold PL pcs
  rw [List.length_map]
  exact Nat.le_trans (List.length_filter_le _ _) (by rw [List.length_range]; exact Nat.le_refl _)
theorem PL_e (f : Nat → List Smp) {k : Nat} (hk : k < 8) {now t : Int} (h : adE (f k) 100 now t = 0) : addEL now (PL f) (mq k) t = 0 := by
  have hl := PL_len f
  unfold addEL
  rw [if_neg (by rw [fIs8 k hk]; decide), PL_has f hk, PL_smp f hk]
  cases hz : (f k).isEmpty with
  | false => rw [if_pos (by decide), h]
  | true =>
    rw [List.isEmpty_iff.1 hz] at h
    rw [if_neg (by decide), if_neg (by rw [h]; decide), if_neg (by omega)]
/-- A sample more of one series. -/
def upd (f : Nat → List Smp) (k : Nat) (s : Smp) (j : Nat) : List Smp := if j = k then f k ++ [s] else f j
theorem PL_add (f : Nat → List Smp) {k : Nat} (hk : k < 8) {now : Int} {s : Smp} (h : adE (f k) 100 now s.1 = 0) (hs : nrm s = s) : addLL now (PL f) (mq k) s = PL (upd f k s) := by
  have e1 : pcs (upd f k s) (List.range k) = pcs f (List.range k) := pcs_congr fun j hj => by unfold upd; rw [if_neg (by have := List.mem_range.1 hj; omega)]
  have e2 : pcs (upd f k s) (hi8 k) = pcs f (hi8 k) := pcs_congr fun j hj => by unfold upd; rw [if_neg (by have := hi_mem hk hj; omega)]
  have e3 : mid (upd f k s) k = [(mq k, f k ++ [s])] := by
    have : upd f k s k = f k ++ [s] := by unfold upd; rw [if_pos rfl]
    unfold mid
    rw [this, if_neg (by simp)]
  rw [PL_split (upd f k s) hk, e1, e2, e3]
  unfold addLL
  rw [if_neg (by rw [PL_e f hk h]; decide), PL_has f hk, PL_smp f hk, PL_pos f hk, PL_split f hk, hs]
  generalize pcs f (List.range k) = A
  generalize pcs f (hi8 k) = B
  cases hz : (f k).isEmpty with
  | false =>
    have e : mid f k = [(mq k, f k)] := by unfold mid; rw [hz]; rfl
    rw [if_pos (by decide), e]
    simp
  | true =>
    have e : mid f k = [] := by unfold mid; rw [hz]; rfl
    rw [if_neg (by decide), e, List.isEmpty_iff.1 hz]
    simp
theorem PL_adv (f : Nat → List Smp) {t : Int} (h : ∀ j, j < 8 → fg (t - 100) (f j) = f j) : advL t (PL f) = PL f := by
  unfold advL PL pcs
  rw [List.map_map]
  have e : ((List.range 8).filter fun j => !(f j).isEmpty).map ((fun x : List Lb.Pr × List Smp => (x.1, fg (t - 100) x.2)) ∘ fun j => (mq j, f j)) = ((List.range 8).filter fun j => !(f j).isEmpty).map fun j => (mq j, f j) := List.map_congr_left fun j hj => by
    show (mq j, fg (t - 100) (f j)) = _
    rw [h j (List.mem_range.1 (List.mem_filter.1 hj).1)]
  rw [e]
  refine List.filter_eq_self.2 fun x hx => ?_
  obtain ⟨j, hj, rfl⟩ := List.mem_map.1 hx
  exact (List.mem_filter.1 hj).2
end Go.Proofs.YtjgckfcocmhnhaaGreatDoor.Sr
