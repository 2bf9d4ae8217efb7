/- A set's text: what is printed, what is read of it. -/
import Derived.Test.YtcbjhfnlhpallaaGreatDoorBaseA
import Derived.Lib.Replace
import Derived.Lib.SplitLaws
import Derived.Lib.IndexLaws
import Derived.Lib.Join
import Derived.Lib.Strings
namespace Go.Proofs.YtcbjhfnlhpallaaGreatDoor

/-! ### Escaped -/
def escC (c : UInt8) : Str := if c = 92 ∨ c = 34 then [92, c] else [c]
def esc (v : Str) : Str := v.flatMap escC
theorem index_one_cons (x c : UInt8) (s : Str) : Lib.index (x :: s) [c] = if x = c then 0 else if Lib.index s [c] = -1 then -1 else Lib.index s [c] + 1 := by
  rw [Lib.index]
  by_cases h : x = c
  · subst h; simp [List.isPrefixOf]
  · have h' : ¬ c = x := fun e => h e.symm
    simp [List.isPrefixOf, h, h']
theorem replace_one (c : UInt8) (new : Str) (s : Str) : Lib.replaceK [c] new (Lib.count s [c]) s = s.flatMap fun x => if x = c then new else [x] := by
  induction s with
  | nil =>
    have : Lib.count ([] : Str) [c] = 0 := by rw [Lib.count_one]; rfl
    rw [this]; rfl
  | cons x s ih =>
    rw [List.flatMap_cons, ← ih]
    by_cases h : x = c
    · subst h
      rw [Lib.count_one, List.count_cons_self, ← Lib.count_one]
      rw [Lib.replaceK_hit _ _ _ _ 0 (by rw [index_one_cons]; simp)]
      simp
    · rw [if_neg h]
      have hc : Lib.count (x :: s) [c] = Lib.count s [c] := Lib.count_cons_ne x c s h
      rw [hc]
      cases hk : Lib.count s [c] with
      | zero => simp [Lib.replaceK]
      | succ k =>
        obtain ⟨i, hi⟩ := Lib.index_of_count (s := s) (old := [c]) (by omega)
        rw [Lib.replaceK_hit _ _ _ _ i hi]
        have hi' : Lib.index (x :: s) [c] = (i + 1 : Nat) := by
          rw [index_one_cons, if_neg h, if_neg (by omega), hi]; simp
        rw [Lib.replaceK_hit _ _ _ _ (i + 1) hi']
        simp
theorem replaceAll_one (c : UInt8) (new : Str) (s : Str) (hne : [c] ≠ new) : Lib.replaceAll s [c] new = s.flatMap fun x => if x = c then new else [x] := by
  unfold Lib.replaceAll Lib.replace Lib.replaceNum
  rw [if_neg (by simpa using hne), if_pos (by omega)]
  exact replace_one c new s
theorem esc_eq (v : Str) : Lib.replaceAll (Lib.replaceAll v [92] [92, 92]) [34] [92, 34] = esc v := by
  rw [replaceAll_one _ _ _ (by simp), replaceAll_one _ _ _ (by simp)]
  unfold esc
  induction v with
  | nil => rfl
  | cons x v ih =>
    simp only [List.flatMap_cons, List.flatMap_append]
    rw [ih]
    congr 1
    unfold escC
    by_cases h : x = 92
    · subst h; rfl
    · by_cases h2 : x = 34
      · subst h2; rfl
      · simp [h, h2]
theorem esc_len (v : Str) : (esc v).length ≤ 2 * v.length := by
  unfold esc
  induction v with
  | nil => simp
  | cons x v ih =>
    rw [List.flatMap_cons, List.length_append]
    have : (escC x).length ≤ 2 := by unfold escC; split <;> simp
    rw [List.length_cons]; omega

/-! ### Printed -/
def metric (l : List Pr) : Str := if fName (fGet l nm) = true then fGet l nm else []
def others (l : List Pr) : List Pr := if fName (fGet l nm) = true then fWithout l [] else l
def pairT (p : Pr) : Str := p.1 ++ [61, 34] ++ esc p.2 ++ [34]
def inner (l : List Pr) : Str := Lib.join (l.map pairT) [44]
def fPrint (l : List Pr) : Str := if fIs l = true then (if metric l ≠ [] ∧ others l = [] then metric l else metric l ++ [123] ++ inner (others l) ++ [125]) else []

/-! ### Read -/
def rdVal : Str → Str × Str
  | [] => ([], [])
  | c :: r => if c = 34 then ([], r) else if c = 92 then (match r with
      | [] => ([92], [])
      | d :: t => (d :: (rdVal t).1, (rdVal t).2)) else (c :: (rdVal r).1, (rdVal r).2)
def rdPairs : Nat → Str → List Pr
  | 0, _ => []
  | k + 1, s => if (Lib.cut s [61, 34]).2.2 = true then ((Lib.cut s [61, 34]).1, (rdVal (Lib.cut s [61, 34]).2.1).1) :: rdPairs k (Lib.trimPrefix (rdVal (Lib.cut s [61, 34]).2.1).2 [44]) else []
def rdAll (s : Str) : List Pr := (if (Lib.cut s [123]).1 = [] then [] else [(nm, (Lib.cut s [123]).1)]) ++ rdPairs ((Lib.cut s [123]).2.1.length + 1) (Lib.cut s [123]).2.1
def okParse (s : Str) : Bool := decide (makeE (rdAll s) = 0) && decide (fPrint (makeL (rdAll s)) = s)
def parseE (s : Str) : Int := if okParse s = true then 0 else 30
def parseL (s : Str) : List Pr := if okParse s = true then makeL (rdAll s) else []

theorem rdVal_len (s : Str) : (rdVal s).1.length + (rdVal s).2.length ≤ s.length := by
  induction s using rdVal.induct with
  | case1 => simp [rdVal]
  | case2 r => rw [rdVal.eq_def]; simp
  | case3 h1 => rw [rdVal.eq_def]; simp
  | case4 d t h1 ih => rw [rdVal.eq_def]; simp; omega
  | case5 c r h1 h2 ih => rw [rdVal.eq_def]; simp [h1, h2]; omega
theorem rdVal_esc (v t : Str) : rdVal (esc v ++ ([34] ++ t)) = (v, t) := by
  induction v with
  | nil => rw [rdVal.eq_def]; simp [esc]
  | cons c v ih =>
    have e : esc (c :: v) = escC c ++ esc v := by simp [esc]
    rw [e]
    unfold escC
    split
    · rename_i h
      rw [List.append_assoc, List.cons_append, rdVal.eq_def]
      simp only [List.cons_append, List.nil_append]
      simp only [List.cons_append, List.nil_append] at ih
      rw [if_neg (by decide), if_pos trivial, ih]
    · rename_i h
      rw [List.append_assoc, List.cons_append, rdVal.eq_def]
      simp only [List.nil_append]
      rw [if_neg (fun e => h (Or.inr e)), if_neg (fun e => h (Or.inl e)), ih]

/-! ### Cut at the first sign -/
theorem name_no {s : Str} (h : fName s = true) : ∀ c ∈ s, nameCh c = true := by
  unfold fName at h
  simp only [Bool.and_eq_true] at h
  exact fun c hc => List.all_eq_true.1 h.2 c hc
theorem name_len {s : Str} (h : fName s = true) : 1 ≤ s.length ∧ s.length ≤ 20 := by
  unfold fName at h
  simp only [Bool.and_eq_true, decide_eq_true_iff] at h
  exact h.1.1
theorem name_ne {s : Str} (h : fName s = true) : s ≠ [] := fun e => by have := name_len h; rw [e] at this; simp at this
theorem ch_ne {c d : UInt8} (h : nameCh c = true) (hd : nameCh d = false) : c ≠ d := fun e => by rw [e, hd] at h; cases h
theorem cut_head {s t : Str} {c : UInt8} {r : Str} (hs : ∀ x ∈ s, x ≠ c) : Lib.cut (s ++ (c :: r ++ t)) (c :: r) = (s, t, true) := by
  have hi : Lib.index (s ++ (c :: r ++ t)) (c :: r) = s.length := by
    refine Lib.index_first (by simp) (by simp [Lib.occAt]) fun j hj => ?_
    unfold Lib.occAt
    have := hs s[j] (List.getElem_mem hj)
    have h' : (c == s[j]) = false := beq_eq_false_iff_ne.2 fun e => this e.symm
    rw [List.drop_append_of_le_length (by omega), List.drop_eq_getElem_cons hj, List.cons_append, List.isPrefixOf, h', Bool.false_and]
  unfold Lib.cut
  rw [hi, if_pos (by omega)]
  simp
theorem cut_none {s : Str} {c : UInt8} {r : Str} (hs : ∀ x ∈ s, x ≠ c) : Lib.cut s (c :: r) = (s, [], false) := by
  have hi : Lib.index s (c :: r) = -1 := by
    refine Lib.index_none fun j hj => ?_
    unfold Lib.occAt
    by_cases h : j < s.length
    · rw [List.drop_eq_getElem_cons h]
      have := hs s[j] (List.getElem_mem h)
      have h' : ¬ c = s[j] := fun e => this e.symm
      simp [List.isPrefixOf, h']
    · rw [List.drop_eq_nil_of_le (by omega)]; rfl
  unfold Lib.cut
  rw [hi, if_neg (by omega)]

/-! ### What is printed is read -/
theorem inner_one (p : Pr) : inner [p] = pairT p := by simp [inner, Lib.join_one]
theorem inner_cons (p q : Pr) (l : List Pr) : inner (p :: q :: l) = pairT p ++ ([44] ++ inner (q :: l)) := by
  unfold inner
  simp only [List.map_cons]
  rw [Lib.join_cons, Lib.join_cons]
  simp [Lib.joinTail]
theorem rdPairs_inner (l : List Pr) (hl : ∀ p ∈ l, fName p.1 = true) : ∀ k, l.length < k → rdPairs k (inner l ++ [125]) = l := by
  induction l with
  | nil =>
    intro k hk
    cases k with
    | zero => omega
    | succ k =>
      have e : inner [] ++ [125] = [125] := by simp [inner, Lib.join_nil]
      rw [e, rdPairs, cut_none (by simp), if_neg (by simp)]
  | cons p l ih =>
    intro k hk
    cases k with
    | zero => omega
    | succ k =>
      have hn : ∀ x ∈ p.1, x ≠ 61 := fun x hx => ch_ne (name_no (hl p (List.mem_cons_self)) x hx) (by decide)
      have ih' := ih (fun q hq => hl q (List.mem_cons_of_mem _ hq)) k (by simpa using hk)
      cases l with
      | nil =>
        rw [inner_one]
        have e : pairT p ++ [125] = p.1 ++ (61 :: [34] ++ (esc p.2 ++ ([34] ++ [125]))) := by simp [pairT]
        rw [e, rdPairs, cut_head hn, rdVal_esc]
        have e2 : Lib.trimPrefix ([125] : Str) [44] = [125] := by decide
        simp only [if_true, e2]
        have e3 : inner [] ++ [125] = [125] := by simp [inner, Lib.join_nil]
        rw [e3] at ih'
        rw [ih']
      | cons q l =>
        rw [inner_cons]
        have e : pairT p ++ ([44] ++ inner (q :: l)) ++ [125] = p.1 ++ (61 :: [34] ++ (esc p.2 ++ ([34] ++ ([44] ++ (inner (q :: l) ++ [125]))))) := by simp [pairT]
        rw [e, rdPairs, cut_head hn, rdVal_esc]
        have e2 : Lib.trimPrefix ([44] ++ (inner (q :: l) ++ [125])) [44] = inner (q :: l) ++ [125] := by
          simp [Lib.trimPrefix, Lib.hasPrefix]
        simp only [if_true, e2]
        rw [ih']
theorem get_mem {l : List Pr} {n : Str} (h : fGet l n ≠ []) : (n, fGet l n) ∈ l := by
  unfold fGet at *
  cases hf : l.find? fun p => decide (p.1 = n) with
  | none => rw [hf] at h; exact absurd rfl h
  | some p =>
    have h1 := List.mem_of_find?_eq_some hf
    have h2 := List.find?_some hf
    simp at h2
    have : p = (n, p.2) := by rw [← h2]
    rw [this] at h1
    exact h1
theorem without_perm {l : List Pr} (hr : (l.map (·.1)).Nodup) (n v : Str) (hm : (n, v) ∈ l) : ((n, v) :: l.filter fun p => !decide (p.1 = n)).Perm l := by
  induction l with
  | nil => cases hm
  | cons p l ih =>
    rw [List.map_cons, List.nodup_cons] at hr
    rcases List.mem_cons.1 hm with e | hm
    · subst e
      rw [List.filter_cons_of_neg (by simp), List.filter_eq_self.2 fun q hq => ?_]
      have : q.1 ≠ n := fun e => hr.1 (by
        rw [show ((n, v) : Pr).1 = q.1 from e.symm]
        exact List.mem_map_of_mem (f := fun q : Pr => q.1) hq)
      simpa using this
    · have hne : p.1 ≠ n := fun e => hr.1 (e ▸ List.mem_map_of_mem (f := fun q : Pr => q.1) hm)
      rw [List.filter_cons_of_pos (by simpa using hne)]
      exact (List.Perm.swap _ _ _).trans (List.Perm.cons p (ih hr.2 hm))
theorem without_none (l : List Pr) : fWithout l [] = l.filter fun p => !decide (p.1 = nm) := by
  unfold fWithout
  congr 1
  funext p
  simp
theorem inner_len (l : List Pr) : l.length ≤ (inner l).length := by
  induction l with
  | nil => simp
  | cons p l ih =>
    cases l with
    | nil => rw [inner_one]; simp [pairT]; omega
    | cons q l => rw [inner_cons]; simp [pairT] at *; omega
theorem rdAll_print {l : List Pr} (h : fIs l = true) : (rdAll (fPrint l)).Perm l := by
  have h' := (is_iff l).1 h
  unfold fPrint
  rw [if_pos h]
  unfold metric others
  by_cases hn : fName (fGet l nm) = true
  · rw [if_pos hn, if_pos hn]
    have hm := get_mem (name_ne hn)
    have hno : ∀ x ∈ fGet l nm, x ≠ 123 := fun x hx => ch_ne (name_no hn x hx) (by decide)
    have hp := without_perm (rises_nodup h'.2.2) nm _ hm
    rw [← without_none] at hp
    have hok : ∀ p ∈ fWithout l [], fName p.1 = true := fun p hp => (h'.2.1 p (List.mem_filter.1 hp).1).1
    by_cases he : fWithout l [] = []
    · rw [if_pos ⟨name_ne hn, he⟩]
      rw [he] at hp
      unfold rdAll
      rw [cut_none hno, if_neg (name_ne hn)]
      have e : rdPairs (([] : Str).length + 1) [] = [] := by decide
      simp only [e]
      exact hp
    · rw [if_neg (fun h => he h.2)]
      have e : fGet l nm ++ [123] ++ inner (fWithout l []) ++ [125] = fGet l nm ++ (123 :: [] ++ (inner (fWithout l []) ++ [125])) := by simp
      unfold rdAll
      rw [e, cut_head hno]
      simp only
      rw [if_neg (name_ne hn), rdPairs_inner _ hok _ (by have := inner_len (fWithout l []); simp; omega)]
      exact hp
  · rw [if_neg hn, if_neg hn]
    rw [if_neg (fun h => h.1 rfl)]
    have e : ([] : Str) ++ [123] ++ inner l ++ [125] = [] ++ (123 :: [] ++ (inner l ++ [125])) := by simp
    unfold rdAll
    rw [e, cut_head (by simp)]
    simp only
    rw [if_pos trivial, rdPairs_inner _ (fun p hp => (h'.2.1 p hp).1) _ (by have := inner_len l; simp; omega)]
    simp
theorem full_is {l : List Pr} (h : fIs l = true) : full l = l := by
  unfold full
  rw [List.filter_eq_self]
  intro p hp
  have := (((is_iff l).1 h).2.1 p hp).2
  unfold fVal at this
  simp at this
  simp
  intro e
  rw [e] at this
  simp at this
theorem make_perm {l m : List Pr} (hp : m.Perm l) (h : fIs l = true) : makeE m = 0 ∧ makeL m = l := by
  have h' := (is_iff l).1 h
  have hn : (m.map (·.1)).Nodup := (hp.map (·.1)).nodup_iff.2 (rises_nodup h'.2.2)
  have ht : twice m = false := by unfold twice; simpa using hn
  have hf : (full m).Perm l := by
    have := hp.filter (fun p : Pr => !p.2.isEmpty)
    rw [show l.filter (fun p : Pr => !p.2.isEmpty) = l from full_is h] at this
    exact this
  have hs : srt (full m) = l := srt_of hf.symm h'.2.2
  have he : makeE m = 0 := by unfold makeE; rw [ht, hs, if_neg (by simp), if_pos h]
  exact ⟨he, by unfold makeL; rw [if_pos he, hs]⟩
theorem parse_print {l : List Pr} (h : fIs l = true) : okParse (fPrint l) = true ∧ parseE (fPrint l) = 0 ∧ parseL (fPrint l) = l := by
  obtain ⟨h1, h2⟩ := make_perm (rdAll_print h) h
  have ho : okParse (fPrint l) = true := by unfold okParse; rw [h1, h2]; simp
  exact ⟨ho, by unfold parseE; rw [if_pos ho], by unfold parseL; rw [if_pos ho, h2]⟩
theorem print_inj {l m : List Pr} (h : fIs l = true) (k : fIs m = true) (e : fPrint l = fPrint m) : l = m := by
  rw [← (parse_print h).2.2, e, (parse_print k).2.2]
theorem make_is {l : List Pr} (h : makeE l = 0) : fIs (makeL l) = true := by
  unfold makeL
  rw [if_pos h]
  unfold makeE at h
  by_cases h1 : twice l = true
  · rw [if_pos h1] at h; omega
  · rw [if_neg h1] at h
    by_cases h2 : fIs (srt (full l)) = true
    · exact h2
    · rw [if_neg h2] at h; omega
theorem okParse_iff (s : Str) : okParse s = true ↔ ∃ l, fIs l = true ∧ fPrint l = s := by
  constructor
  · intro h
    unfold okParse at h
    simp only [Bool.and_eq_true, decide_eq_true_iff] at h
    exact ⟨_, make_is h.1, h.2⟩
  · rintro ⟨l, h, rfl⟩
    exact (parse_print h).1
end Go.Proofs.YtcbjhfnlhpallaaGreatDoor
