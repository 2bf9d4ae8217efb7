/- What the law of With asks, of the plain functions. -/
import Derived.Test.YtmhpmlfpflkgbaaDoorWith
namespace Go.Proofs.YtmhpmlfpflkgbaaDoor
open Go.RowKit

theorem lastN_app (l a : List Pr) (n : Str) : lastN (l ++ a) n = (ofN n l ++ ofN n a).getLast? := by
  unfold lastN
  rw [List.filter_append]
theorem latest_mem (l a : List Pr) (r : Pr) : r ∈ latest l a ↔ (ofN r.1 l ++ ofN r.1 a).getLast? = some r := by
  unfold latest
  rw [(srt_perm _).mem_iff, lastOf_mem, lastN_app]
theorem latest_congr {l a b : List Pr} (h : ∀ n, ofN n a = ofN n b) : latest l a = latest l b := by
  have hr := latest_rises l b
  unfold latest
  refine srt_of ?_ hr
  refine perm_of_mem (rises_nodup hr) (lastOf_nodup _) fun r => ?_
  rw [show srt (lastOf (l ++ b)) = latest l b from rfl, latest_mem, lastOf_mem, lastN_app, h]
theorem of_two {p q : Pr} (h : p.1 ≠ q.1) (n : Str) : ofN n [p, q] = ofN n [q, p] := by
  by_cases hp : p.1 = n
  · have hq : ¬ q.1 = n := fun e => h (hp.trans e.symm)
    simp [hp, hq]
  · by_cases hq : q.1 = n
    · simp [hp, hq]
    · simp [hp, hq]
theorem with_two {l : List Pr} {p q : Pr} (h : p.1 ≠ q.1) : withE l [p, q] = withE l [q, p] ∧ withL l [p, q] = withL l [q, p] := by
  have e := latest_congr (l := l) (of_two h)
  unfold withL withE
  rw [e]
  exact ⟨rfl, rfl⟩
theorem withE_cases (l a : List Pr) : withE l a = 0 ∨ withE l a = 30 := by
  unfold withE
  split
  · split
    · exact Or.inl rfl
    · exact Or.inr rfl
  · exact Or.inr rfl
theorem with_zero {l a : List Pr} (h : withE l a = 0) : fIs (withL l a) = true ∧ withL l a = full (latest l a) := by
  have e : withL l a = full (latest l a) := by unfold withL; rw [if_pos h]
  rw [e]
  refine ⟨?_, rfl⟩
  unfold withE at h
  split at h
  · split at h
    · assumption
    · cases h
  · cases h
theorem getW {l : List Pr} (h : fIs l = true) {r : Pr} (hr : r ∈ l) : fGet l r.1 = r.2 := by
  have hn := rises_nodup ((is_iff l).1 h).2.2
  unfold fGet
  cases hf : l.find? fun p => decide (p.1 = r.1) with
  | none =>
    have := List.find?_eq_none.1 hf r hr
    simp at this
  | some s =>
    have hs := List.find?_some hf
    have hm := List.mem_of_find?_eq_some hf
    simp at hs
    rw [inj_name hn hm hr hs]
    rfl
theorem getW0 {l : List Pr} {n : Str} (h : ∀ r ∈ l, r.1 ≠ n) : fGet l n = [] := by
  unfold fGet
  rw [List.find?_eq_none.2 (fun r hr => by simpa using h r hr)]
  rfl
theorem with_one {l : List Pr} {p : Pr} (h : withE l [p] = 0) : fGet (withL l [p]) p.1 = p.2 := by
  obtain ⟨hi, e⟩ := with_zero h
  by_cases hp : p.2 = []
  · rw [hp]
    refine getW0 fun r hr er => ?_
    rw [e] at hr
    obtain ⟨h1, h2⟩ := List.mem_filter.1 hr
    rw [latest_mem, er] at h1
    have e1 : ofN p.1 [p] = [p] := by simp
    rw [e1, List.getLast?_append] at h1
    simp at h1
    rw [← h1, hp] at h2
    cases h2
  · refine getW hi ?_
    rw [e]
    refine List.mem_filter.2 ⟨?_, by simpa using hp⟩
    rw [latest_mem]
    have e1 : ofN p.1 [p] = [p] := by simp
    rw [e1, List.getLast?_append]
    rfl
theorem with_stays {l : List Pr} {p r : Pr} (hl : fIs l = true) (h : withE l [p] = 0) (hr : r ∈ l) (hne : r.1 ≠ p.1) : fGet (withL l [p]) r.1 = r.2 := by
  obtain ⟨hi, e⟩ := with_zero h
  have hn := rises_nodup ((is_iff l).1 hl).2.2
  refine getW hi ?_
  rw [e]
  refine List.mem_filter.2 ⟨?_, by simpa using val_ne (((is_iff l).1 hl).2.1 r hr).2⟩
  rw [latest_mem]
  have e1 : ofN r.1 [p] = [] := by simp [Ne.symm hne]
  rw [e1, List.append_nil]
  cases hg : (ofN r.1 l).getLast? with
  | none =>
    have := List.getLast?_eq_none_iff.1 hg
    have hm : r ∈ ofN r.1 l := List.mem_filter.2 ⟨hr, by simp⟩
    rw [this] at hm
    cases hm
  | some s =>
    have hm := List.mem_of_getLast? hg
    obtain ⟨h1, h2⟩ := List.mem_filter.1 hm
    simp at h2
    rw [inj_name hn h1 hr h2]
theorem len_sub {l m : List Pr} (h : l.Nodup) (hs : ∀ p, p ∈ l → p ∈ m) : l.length ≤ m.length := by
  induction l generalizing m with
  | nil => exact Nat.zero_le _
  | cons a r ih =>
    have ha := hs a (by simp)
    rw [List.nodup_cons] at h
    have h1 := ih (m := m.erase a) h.2 fun p hp => by
      refine (List.mem_erase_of_ne ?_).2 (hs p (by simp [hp]))
      intro e
      subst e
      exact h.1 hp
    rw [List.length_erase_of_mem ha] at h1
    have : 0 < m.length := List.length_pos_of_mem ha
    simp
    omega
theorem with_gone {l : List Pr} (n : Str) (hl : fIs l = true) : withE l [(n, [])] = 0 := by
  unfold withE
  rw [if_pos hl]
  have hr := latest_rises l [(n, [])]
  have hsub : ∀ r, r ∈ full (latest l [(n, [])]) → r ∈ l := fun r hr => by
    obtain ⟨h1, h2⟩ := List.mem_filter.1 hr
    have h3 := lastOf_sub ((srt_perm _).mem_iff.1 h1)
    rcases List.mem_append.1 h3 with h | h
    · exact h
    · simp at h
      rw [h] at h2
      cases h2
  have hf : fIs (full (latest l [(n, [])])) = true := by
    rw [is_iff]
    have hrf := rises_filter hr fun p => !p.2.isEmpty
    refine ⟨?_, fun p hp => ((is_iff l).1 hl).2.1 p (hsub p hp), hrf⟩
    have hnd := nodup_of_names (rises_nodup hrf)
    exact Nat.le_trans (len_sub hnd (fun p hp => hsub p hp)) ((is_iff l).1 hl).1
  rw [if_pos hf]
end Go.Proofs.YtmhpmlfpflkgbaaDoor
