/- More of label sets in plain words: what is got of a part of a set; of each name the last pair. -/
import Derived.Test.YtideieolgjhbiaaGreatDoorPlain
namespace Go.Proofs.YtideieolgjhbiaaGreatDoor

theorem get_nil (n : Str) : fGet [] n = [] := rfl
theorem get_cons (p : Pr) (l : List Pr) (n : Str) : fGet (p :: l) n = if p.1 = n then p.2 else fGet l n := by
  unfold fGet
  rw [List.find?_cons]
  by_cases h : p.1 = n
  · simp [h]
  · simp [h]
theorem get_none {l : List Pr} {n : Str} (h : ∀ p ∈ l, p.1 ≠ n) : fGet l n = [] := by
  induction l with
  | nil => rfl
  | cons p l ih => rw [get_cons, if_neg (h p List.mem_cons_self), ih fun q hq => h q (List.mem_cons_of_mem _ hq)]
theorem get_of_mem {l : List Pr} (hn : (l.map (·.1)).Nodup) {p : Pr} (h : p ∈ l) : fGet l p.1 = p.2 := by
  induction l with
  | nil => cases h
  | cons q l ih =>
    rw [List.map_cons, List.nodup_cons] at hn
    rw [get_cons]
    rcases List.mem_cons.1 h with rfl | h
    · rw [if_pos rfl]
    · have hne : ¬ q.1 = p.1 := fun e => hn.1 (by rw [e]; exact List.mem_map_of_mem (f := fun q : Pr => q.1) h)
      rw [if_neg hne, ih hn.2 h]
theorem nodup_filter {l : List Pr} (hn : (l.map (·.1)).Nodup) (f : Pr → Bool) : ((l.filter f).map (·.1)).Nodup := by
  rw [List.Nodup, List.pairwise_map] at *
  exact hn.filter f
theorem inj_name {l : List Pr} (hn : (l.map (·.1)).Nodup) {p q : Pr} (hp : p ∈ l) (hq : q ∈ l) (e : p.1 = q.1) : p = q := by
  have h1 := get_of_mem hn hp
  have h2 := get_of_mem hn hq
  rw [e, h2] at h1
  exact Prod.ext e h1.symm
theorem get_filter {l : List Pr} (hn : (l.map (·.1)).Nodup) (f : Pr → Bool) {p : Pr} (h : p ∈ l) : fGet (l.filter f) p.1 = if f p = true then p.2 else [] := by
  by_cases hf : f p = true
  · rw [if_pos hf]
    exact get_of_mem (nodup_filter hn f) (List.mem_filter.2 ⟨h, hf⟩)
  · rw [if_neg hf]
    refine get_none fun q hq e => hf ?_
    obtain ⟨h1, h2⟩ := List.mem_filter.1 hq
    rw [inj_name hn h h1 e.symm]
    exact h2
theorem val_ne {s : Str} (h : fVal s = true) : s ≠ [] := fun e => by subst e; simp [fVal] at h
theorem val_len {s : Str} (h : fVal s = true) : 1 ≤ s.length ∧ s.length ≤ 30 := by
  unfold fVal at h
  simp only [Bool.and_eq_true, decide_eq_true_iff] at h
  exact h.1

/-! ### Of each name the last -/
def lastOf : List Pr → List Pr
  | [] => []
  | p :: r => if r.any (fun q => decide (q.1 = p.1)) = true then lastOf r else p :: lastOf r
/-- Of the pairs that lie side by side under one name the last. -/
def ends : List Pr → List Pr
  | [] => []
  | [p] => [p]
  | p :: q :: r => if p.1 = q.1 then ends (q :: r) else p :: ends (q :: r)
/-- The last pair of that name. -/
def lastN (l : List Pr) (n : Str) : Option Pr := (l.filter fun p => decide (p.1 = n)).getLast?
theorem lastN_cons (p : Pr) (l : List Pr) (n : Str) : lastN (p :: l) n = if l.any (fun q => decide (q.1 = n)) = true then lastN l n else if p.1 = n then some p else none := by
  unfold lastN
  by_cases ha : l.any (fun q => decide (q.1 = n)) = true
  · rw [if_pos ha]
    obtain ⟨q, hq, he⟩ := List.any_eq_true.1 ha
    have hne : (l.filter fun p => decide (p.1 = n)) ≠ [] := List.ne_nil_of_mem (List.mem_filter.2 ⟨hq, he⟩)
    rw [List.filter_cons]
    split
    · rw [List.getLast?_cons]
      cases h : (l.filter fun p => decide (p.1 = n)).getLast? with
      | none => exact absurd (List.getLast?_eq_none_iff.1 h) hne
      | some x => rfl
    · rfl
  · rw [if_neg ha]
    have he : (l.filter fun p => decide (p.1 = n)) = [] := by
      rw [List.filter_eq_nil_iff]
      intro q hq e
      exact ha (List.any_eq_true.2 ⟨q, hq, e⟩)
    rw [List.filter_cons, he]
    by_cases h : p.1 = n
    · simp [h]
    · simp [h]
theorem lastOf_mem (l : List Pr) (p : Pr) : p ∈ lastOf l ↔ lastN l p.1 = some p := by
  induction l with
  | nil => simp [lastOf, lastN]
  | cons a l ih =>
    rw [lastN_cons, lastOf]
    by_cases ha : l.any (fun q => decide (q.1 = a.1)) = true
    · rw [if_pos ha, ih]
      by_cases e : a.1 = p.1
      · rw [e] at ha
        rw [if_pos ha]
      · by_cases hb : l.any (fun q => decide (q.1 = p.1)) = true
        · rw [if_pos hb]
        · rw [if_neg hb, if_neg e]
          have : lastN l p.1 = none := by
            unfold lastN
            rw [List.getLast?_eq_none_iff, List.filter_eq_nil_iff]
            exact fun q hq e => hb (List.any_eq_true.2 ⟨q, hq, e⟩)
          rw [this]
    · rw [if_neg ha, List.mem_cons, ih]
      by_cases e : p = a
      · subst e
        rw [if_neg ha, if_pos rfl]
        simp
      · by_cases hb : l.any (fun q => decide (q.1 = p.1)) = true
        · rw [if_pos hb]
          simp [e]
        · rw [if_neg hb]
          have : lastN l p.1 = none := by
            unfold lastN
            rw [List.getLast?_eq_none_iff, List.filter_eq_nil_iff]
            exact fun q hq e => hb (List.any_eq_true.2 ⟨q, hq, e⟩)
          rw [this]
          by_cases e2 : a.1 = p.1
          · rw [if_pos e2]
            simp [e]
            exact fun e' => e e'.symm
          · rw [if_neg e2]
            simp [e]
theorem lastOf_sub {l : List Pr} {p : Pr} (h : p ∈ lastOf l) : p ∈ l := by
  rw [lastOf_mem] at h
  exact (List.mem_filter.1 (List.mem_of_getLast? h)).1
theorem lastOf_nodup (l : List Pr) : ((lastOf l).map (·.1)).Nodup := by
  induction l with
  | nil => simp [lastOf]
  | cons a l ih =>
    rw [lastOf]
    split
    · exact ih
    · rename_i h
      rw [List.map_cons, List.nodup_cons]
      refine ⟨fun hm => ?_, ih⟩
      obtain ⟨q, hq, e⟩ := List.mem_map.1 hm
      exact h (List.any_eq_true.2 ⟨q, lastOf_sub hq, by simpa using e⟩)
theorem ends_sub {l : List Pr} {p : Pr} (h : p ∈ ends l) : p ∈ l := by
  induction l using ends.induct with
  | case1 => simp [ends] at h
  | case2 q => simpa [ends] using h
  | case3 a b r e ih =>
    rw [ends, if_pos e] at h
    exact List.mem_cons_of_mem _ (ih h)
  | case4 a b r e ih =>
    rw [ends, if_neg e] at h
    rcases List.mem_cons.1 h with rfl | h
    · exact List.mem_cons_self
    · exact List.mem_cons_of_mem _ (ih h)
theorem ends_rises {l : List Pr} (h : sortedN l) : rises (ends l) := by
  unfold rises
  induction l using ends.induct with
  | case1 => exact List.Pairwise.nil
  | case2 q => simp [ends]
  | case3 a b r e ih =>
    rw [ends, if_pos e]
    exact ih (List.pairwise_cons.1 h).2
  | case4 a b r e ih =>
    rw [ends, if_neg e, List.pairwise_cons]
    have h' := List.pairwise_cons.1 h
    refine ⟨fun x hx => ?_, ih h'.2⟩
    have hab : a.1 < b.1 := by
      have := h'.1 b List.mem_cons_self
      by_cases k : a.1 < b.1
      · exact k
      · exact absurd (str_eq k this) e
    rcases List.mem_cons.1 (ends_sub hx) with rfl | hx
    · exact hab
    · have := (List.pairwise_cons.1 h'.2).1 x hx
      by_cases k : b.1 < x.1
      · exact str_trans hab k
      · rw [← str_eq k this]; exact hab
theorem ends_mem {l : List Pr} (h : sortedN l) (p : Pr) : p ∈ ends l ↔ lastN l p.1 = some p := by
  induction l using ends.induct with
  | case1 => simp [ends, lastN]
  | case2 q =>
    rw [lastN_cons]
    simp [ends]
    by_cases e : p = q
    · subst e; simp
    · simp [e, Ne.symm e]
  | case3 a b r e ih =>
    have h' := List.pairwise_cons.1 h
    rw [ends, if_pos e, ih h'.2, lastN_cons a]
    by_cases hb : (b :: r).any (fun q => decide (q.1 = p.1)) = true
    · rw [if_pos hb]
    · rw [if_neg hb]
      have h2 : lastN (b :: r) p.1 = none := by
        unfold lastN
        rw [List.getLast?_eq_none_iff, List.filter_eq_nil_iff]
        exact fun q hq e => hb (List.any_eq_true.2 ⟨q, hq, e⟩)
      have h3 : ¬ a.1 = p.1 := fun e' => hb (List.any_eq_true.2 ⟨b, List.mem_cons_self, by simp [← e, e']⟩)
      rw [h2, if_neg h3]
  | case4 a b r e ih =>
    have h' := List.pairwise_cons.1 h
    rw [ends, if_neg e, List.mem_cons, ih h'.2, lastN_cons a]
    have hab : a.1 < b.1 := by
      have := h'.1 b List.mem_cons_self
      by_cases k : a.1 < b.1
      · exact k
      · exact absurd (str_eq k this) e
    have hno : ∀ q ∈ b :: r, q.1 ≠ a.1 := by
      intro q hq eq
      rcases List.mem_cons.1 hq with rfl | hq
      · exact e eq.symm
      · have := (List.pairwise_cons.1 h'.2).1 q hq
        rw [eq] at this
        exact this hab
    by_cases hb : (b :: r).any (fun q => decide (q.1 = p.1)) = true
    · rw [if_pos hb]
      obtain ⟨q, hq, e2⟩ := List.any_eq_true.1 hb
      have : p ≠ a := fun e3 => hno q hq (by simp at e2; rw [e2, e3])
      simp [this]
    · rw [if_neg hb]
      have h2 : lastN (b :: r) p.1 = none := by
        unfold lastN
        rw [List.getLast?_eq_none_iff, List.filter_eq_nil_iff]
        exact fun q hq e => hb (List.any_eq_true.2 ⟨q, hq, e⟩)
      rw [h2]
      by_cases e3 : a.1 = p.1
      · rw [if_pos e3]
        simp
        exact eq_comm
      · rw [if_neg e3]
        have : p ≠ a := fun e4 => e3 (by rw [e4])
        simp [this]
theorem nodup_of_names {l : List Pr} (h : (l.map (·.1)).Nodup) : l.Nodup := by
  rw [List.Nodup, List.pairwise_map] at h
  exact h.imp fun hab e => hab (by rw [e])
theorem perm_of_mem {l m : List Pr} (hl : (l.map (·.1)).Nodup) (hm : (m.map (·.1)).Nodup) (h : ∀ p, p ∈ l ↔ p ∈ m) : l.Perm m :=
  (List.perm_ext_iff_of_nodup (nodup_of_names hl) (nodup_of_names hm)).2 h
/-- What is sorted by name and keeps the order of each name's pairs: the ends are the last ones. -/
theorem ends_eq {s l : List Pr} (hs : sortedN s) (hst : ∀ n, (s.filter fun p => decide (p.1 = n)) = l.filter fun p => decide (p.1 = n)) : ends s = srt (lastOf l) := by
  refine (srt_of ?_ (ends_rises hs)).symm
  refine perm_of_mem (rises_nodup (ends_rises hs)) (lastOf_nodup l) fun p => ?_
  rw [ends_mem hs, lastOf_mem]
  unfold lastN
  rw [hst]
def latest (l p : List Pr) : List Pr := srt (lastOf (l ++ p))
theorem latest_rises (l p : List Pr) : rises (latest l p) :=
  sorted_rises (srt_sorted _) ((((srt_perm _).map (·.1)).nodup_iff).2 (lastOf_nodup _))
def withE (l p : List Pr) : Int := if fIs l = true then (if fIs (full (latest l p)) = true then 0 else 30) else 30
def withL (l p : List Pr) : List Pr := if withE l p = 0 then full (latest l p) else []
theorem make_latest (l p : List Pr) (h : fIs l = true) : makeE (latest l p) = withE l p ∧ makeL (latest l p) = withL l p := by
  have hr := latest_rises l p
  have ht : twice (latest l p) = false := by unfold twice; simpa using rises_nodup hr
  have hs : srt (full (latest l p)) = full (latest l p) := srt_rises (rises_filter hr _)
  have he : makeE (latest l p) = withE l p := by
    unfold makeE withE
    rw [ht, hs, if_pos h, if_neg (by simp)]
  refine ⟨he, ?_⟩
  unfold makeL withL
  rw [he, hs]
end Go.Proofs.YtideieolgjhbiaaGreatDoor
