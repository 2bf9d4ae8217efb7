/- What the document's Make and With come to, in plain words. -/
import Derived.Test.YtideieolgjhbiaaGreatDoorRefSort
namespace Go.Proofs.YtideieolgjhbiaaGreatDoor

def st (out : List Pr) (q : Pr) : List Pr := (out.filter fun x => !decide (x.1 = q.1)) ++ (if q.2 = [] then [] else [q])
def wf (l p : List Pr) : List Pr := p.foldl st l
theorem st_mem (out : List Pr) (q x : Pr) : x ∈ st out q ↔ (x ∈ out ∧ x.1 ≠ q.1) ∨ (x = q ∧ q.2 ≠ []) := by
  unfold st
  by_cases h : q.2 = []
  · simp [h]
  · simp [h]
theorem st_nodup {out : List Pr} (h : (out.map (·.1)).Nodup) (q : Pr) : ((st out q).map (·.1)).Nodup := by
  unfold st
  rw [List.map_append, List.nodup_append]
  refine ⟨nodup_filter h _, by split <;> simp, ?_⟩
  intro a ha b hb e
  obtain ⟨x, hx, rfl⟩ := List.mem_map.1 ha
  obtain ⟨y, hy, rfl⟩ := List.mem_map.1 hb
  have h1 := (List.mem_filter.1 hx).2
  split at hy
  · cases hy
  · rw [List.mem_singleton] at hy
    subst hy
    simp at h1
    exact h1 e
theorem lastN_snoc (l : List Pr) (q : Pr) (n : Str) : lastN (l ++ [q]) n = if q.1 = n then some q else lastN l n := by
  unfold lastN
  rw [List.filter_append]
  by_cases h : q.1 = n
  · simp [h]
  · simp [h]
theorem lastN_self {l : List Pr} (hn : (l.map (·.1)).Nodup) (hv : ∀ x ∈ l, x.2 ≠ []) (x : Pr) : x ∈ l ↔ lastN l x.1 = some x ∧ x.2 ≠ [] := by
  unfold lastN
  constructor
  · intro hx
    refine ⟨?_, hv x hx⟩
    have hm : x ∈ l.filter (fun p => decide (p.1 = x.1)) := List.mem_filter.2 ⟨hx, by simp⟩
    cases h : (l.filter fun p => decide (p.1 = x.1)).getLast? with
    | none => rw [List.getLast?_eq_none_iff] at h; rw [h] at hm; cases hm
    | some y =>
      have hy := List.mem_filter.1 (List.mem_of_getLast? h)
      rw [inj_name hn hy.1 hx (of_decide_eq_true hy.2)]
  · rintro ⟨h, _⟩
    exact (List.mem_filter.1 (List.mem_of_getLast? h)).1
theorem fold_mem (p : List Pr) : ∀ (out pre : List Pr), (∀ x, x ∈ out ↔ lastN pre x.1 = some x ∧ x.2 ≠ []) → ∀ x, x ∈ p.foldl st out ↔ lastN (pre ++ p) x.1 = some x ∧ x.2 ≠ [] := by
  induction p with
  | nil => intro out pre h x; rw [List.append_nil]; exact h x
  | cons q p ih =>
    intro out pre h x
    rw [List.foldl_cons, show pre ++ q :: p = (pre ++ [q]) ++ p by simp]
    refine ih (st out q) (pre ++ [q]) (fun y => ?_) x
    rw [st_mem, lastN_snoc, h]
    by_cases e : q.1 = y.1
    · rw [if_pos e]
      constructor
      · rintro (⟨_, k⟩ | ⟨rfl, k⟩)
        · exact absurd e.symm k
        · exact ⟨rfl, k⟩
      · rintro ⟨k, k2⟩
        have : q = y := Option.some.inj k
        subst this
        exact Or.inr ⟨rfl, k2⟩
    · rw [if_neg e]
      constructor
      · rintro (⟨k, _⟩ | ⟨rfl, _⟩)
        · exact k
        · exact absurd rfl e
      · intro k
        exact Or.inl ⟨k, fun e2 => e e2.symm⟩
theorem fold_nodup (p : List Pr) : ∀ out : List Pr, (out.map (·.1)).Nodup → ((p.foldl st out).map (·.1)).Nodup := by
  induction p with
  | nil => intro out h; exact h
  | cons q p ih => intro out h; exact ih _ (st_nodup h q)
theorem wf_latest {l p m : List Pr} (hl : fIs l = true) (hp : m.Perm (wf l p)) (hs : sortedN m) : m = full (latest l p) := by
  obtain ⟨_, hl2, hl3⟩ := (is_iff l).1 hl
  have hnd : ((wf l p).map (·.1)).Nodup := fold_nodup p l (rises_nodup hl3)
  have hmn : (m.map (·.1)).Nodup := ((hp.map (·.1)).nodup_iff).2 hnd
  have hr := sorted_rises hs hmn
  have hr2 : rises (full (latest l p)) := rises_filter (latest_rises l p) _
  have hmem : ∀ x, x ∈ m ↔ x ∈ full (latest l p) := fun x => by
    rw [hp.mem_iff]
    unfold wf
    rw [fold_mem p l l (lastN_self (rises_nodup hl3) fun y hy => val_ne (hl2 y hy).2) x]
    unfold full latest
    rw [List.mem_filter, (srt_perm _).mem_iff, lastOf_mem]
    simp
  have hperm := perm_of_mem hmn (rises_nodup hr2) hmem
  rw [← srt_of hperm hr, srt_rises hr2]
theorem wf_with {l p m : List Pr} (hl : fIs l = true) (hp : m.Perm (wf l p)) (hs : sortedN m) : withE l p = (if fIs m = true then 0 else 30) ∧ withL l p = if fIs m = true then m else [] := by
  have e := wf_latest hl hp hs
  unfold withL withE
  rw [if_pos hl, ← e]
  refine ⟨rfl, ?_⟩
  by_cases h : fIs m = true
  · simp [h]
  · simp [h]

/-! ### Make -/
def ndUp (l : List Pr) (i : Nat) : Prop := ((l.take i).map (·.1)).Nodup
def apUp (l : List Pr) (i k : Nat) : Prop := ∀ t, t < k → (l.getD t ([], [])).1 ≠ (l.getD i ([], [])).1
theorem nd_step {l : List Pr} {i : Nat} (hi : i < l.length) (h : ndUp l i) (ha : apUp l i i) : ndUp l (i + 1) := by
  unfold ndUp at *
  rw [List.take_succ_eq_append_getElem hi, List.map_append, List.nodup_append]
  refine ⟨h, by simp, ?_⟩
  intro a ha' b hb e
  obtain ⟨x, hx, rfl⟩ := List.mem_map.1 ha'
  simp at hb
  subst hb
  obtain ⟨t, ht, e2⟩ := List.mem_iff_getElem.1 hx
  rw [List.length_take] at ht
  rw [List.getElem_take] at e2
  have := ha t (by omega)
  rw [getD_at (by omega), getD_at hi, e2] at this
  exact this e
theorem nd_hit {l : List Pr} {i k : Nat} (hk : k < i) (hi : i < l.length) (h : (l.getD i ([], [])).1 = (l.getD k ([], [])).1) : twice l = true := by
  unfold twice
  rw [Bool.not_eq_true', decide_eq_false_iff_not]
  intro hn
  rw [getD_at hi, getD_at (by omega)] at h
  have := List.pairwise_iff_getElem.1 hn k i (by simp; omega) (by simpa using hi) hk
  simp at this
  exact this h.symm
theorem nd_all {l : List Pr} {i : Nat} (hi : l.length ≤ i) (h : ndUp l i) : twice l = false := by
  unfold ndUp at h
  rw [List.take_of_length_le hi] at h
  unfold twice
  simpa using h
theorem ap_step {l : List Pr} {i k : Nat} (h : apUp l i k) (hn : (l.getD i ([], [])).1 ≠ (l.getD k ([], [])).1) : apUp l i (k + 1) := fun t ht => by
  by_cases e : t = k
  · subst e; exact fun e2 => hn e2.symm
  · exact h t (by omega)
def fullUp (l : List Pr) (j : Nat) : List Pr := (l.take j).filter fun p => !p.2.isEmpty
theorem make_of {l m : List Pr} (ht : twice l = false) (hp : m.Perm (full l)) (hs : sortedN m) : makeE l = (if fIs m = true then 0 else 30) ∧ makeL l = if fIs m = true then m else [] := by
  have hn : (l.map (·.1)).Nodup := by unfold twice at ht; simpa using ht
  have hmn : (m.map (·.1)).Nodup := ((hp.map (·.1)).nodup_iff).2 (nodup_filter hn _)
  have e := srt_of hp (sorted_rises hs hmn)
  unfold makeL makeE
  rw [ht, e]
  refine ⟨by simp, ?_⟩
  by_cases h : fIs m = true
  · simp [h]
  · simp [h]
theorem make_twice {l : List Pr} (ht : twice l = true) : makeE l = 31 ∧ makeL l = [] := by
  have : makeE l = 31 := by unfold makeE; rw [if_pos ht]
  refine ⟨this, ?_⟩
  unfold makeL
  rw [this]
  rfl
end Go.Proofs.YtideieolgjhbiaaGreatDoor
