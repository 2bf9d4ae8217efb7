/- The reader's first part, and its end. -/
import Derived.Test.YtmhpmlfpflkgbaaDoorReadP
namespace Go.Proofs.YtmhpmlfpflkgbaaDoor
open Go.RowKit

theorem parts_perm {m : List Pr} (h : fIs m = true) : (mpair m ++ others m).Perm m := by
  have h' := (is_iff m).1 h
  unfold mpair metric others
  by_cases hn : fName (fGet m nm) = true
  · rw [if_pos hn, if_pos hn, if_neg (name_ne hn)]
    have hm := get_mem (name_ne hn)
    have hp := without_perm (rises_nodup h'.2.2) nm _ hm
    rw [← without_none] at hp
    exact hp
  · rw [if_neg hn, if_neg hn]
    exact List.Perm.refl _
theorem metric_chs {m : List Pr} : ∀ x ∈ metric m, nameCh x = true := by
  unfold metric
  split
  · rename_i h
    exact name_no h
  · intro x hx
    cases hx
theorem print_form {m : List Pr} (h : fIs m = true) : (fPrint m = metric m ∧ others m = [] ∧ metric m ≠ []) ∨ fPrint m = metric m ++ 123 :: (inner (others m) ++ [125]) := by
  unfold fPrint
  rw [if_pos h]
  by_cases e : metric m ≠ [] ∧ others m = []
  · rw [if_pos e]
    exact Or.inl ⟨rfl, e.2, e.1⟩
  · rw [if_neg e]
    exact Or.inr (by simp)
def hd (s : Str) : List Pr := if idn s = 0 then [] else [(nm, s.take (idn s))]
theorem idn_print {m : List Pr} (h : fIs m = true) : idn (fPrint m) = (metric m).length ∧ (fPrint m).take (metric m).length = metric m ∧ ((fPrint m).drop (metric m).length = [] ∧ others m = [] ∨ (fPrint m).drop (metric m).length = 123 :: (inner (others m) ++ [125])) := by
  unfold idn
  rcases print_form h with ⟨e, e2, _⟩ | e
  · rw [e]
    have := takeWhile_app (a := metric m) (b := []) metric_chs (fun c r e => by cases e)
    rw [List.append_nil] at this
    rw [this]
    exact ⟨rfl, by simp, Or.inl ⟨by simp, e2⟩⟩
  · rw [e, takeWhile_app metric_chs (fun c r e => by cases e; decide)]
    exact ⟨rfl, by simp, Or.inr (by simp)⟩
theorem hd_print {m : List Pr} (h : fIs m = true) : hd (fPrint m) = mpair m := by
  obtain ⟨e1, e2, _⟩ := idn_print h
  unfold hd mpair
  rw [e1, e2]
  by_cases hz : metric m = []
  · rw [if_pos hz, if_pos (by rw [hz]; rfl)]
  · rw [if_neg hz, if_neg (fun e => hz (List.length_eq_zero_iff.1 e))]
theorem st_first {s : Str} (ok : okParse s = true) : s.drop (idn s) = [] ∨ (s.drop (idn s)).head? = some 123 := by
  obtain ⟨m, hm, rfl⟩ := (okParse_iff s).1 ok
  obtain ⟨e1, _, e3⟩ := idn_print hm
  rw [e1]
  rcases e3 with ⟨e, _⟩ | e
  · exact Or.inl e
  · rw [e]; exact Or.inr rfl
theorem st_start {s : Str} (h : (s.drop (idn s)).head? = some 123) : st s ((s.drop (idn s)).drop 1) (hd s) := by
  intro m hm hp
  subst hp
  obtain ⟨e1, _, e3⟩ := idn_print hm
  rw [e1] at h ⊢
  rcases e3 with ⟨e, _⟩ | e
  · rw [e] at h; cases h
  · rw [e]
    exact ⟨[], others m, rfl, rfl, by rw [hd_print hm]; simp⟩
def fin (s : Str) (out : List Pr) : Prop := ∀ m, fIs m = true → fPrint m = s → out.Perm m
theorem fin_short {s : Str} (h : s.drop (idn s) = []) : fin s (hd s) := by
  intro m hm hp
  subst hp
  obtain ⟨e1, _, e3⟩ := idn_print hm
  rw [e1] at h
  rcases e3 with ⟨_, e⟩ | e
  · rw [hd_print hm]
    have := parts_perm hm
    rw [e, List.append_nil] at this
    exact this
  · rw [e] at h; cases h
theorem fin_loop {s : Str} {out : List Pr} (h : st s [125] out) : fin s out := by
  intro m hm hp
  obtain ⟨dn, rest, ho, ht, rfl⟩ := h m hm hp
  have hr : rest = [] := by
    have e := congrArg List.length ht
    have hl := inner_len rest
    simp only [List.length_append, List.length_cons, List.length_nil] at e
    exact List.length_eq_zero_iff.1 (by omega)
  subst hr
  rw [List.append_nil] at ho
  rw [← ho]
  exact parts_perm hm
theorem fin_yes {s : Str} {x : List Pr} (hi : fIs x = true) (hp : fPrint x = s) : okParse s = true ∧ parseL s = x := by
  subst hp
  have := parse_print hi
  exact ⟨this.1, this.2.2⟩
theorem fin_no {s : Str} {out x : List Pr} (h : fin s out) (hp : x.Perm out) (hs : sortedN x) (hn : ¬ (fIs x = true ∧ fPrint x = s)) : okParse s = false := by
  cases ok : okParse s with
  | false => rfl
  | true =>
    obtain ⟨m, hm, he⟩ := (okParse_iff s).1 ok
    have hpm := hp.trans (h m hm he)
    have hr := ((is_iff m).1 hm).2.2
    have hx : rises x := sorted_rises hs (((hpm.map (·.1)).nodup_iff).2 (rises_nodup hr))
    have : x = m := by rw [← srt_rises hx]; exact srt_of hpm.symm hr
    exact absurd ⟨by rw [this]; exact hm, by rw [this]; exact he⟩ hn
theorem parseL_no {s : Str} (h : okParse s = false) : parseL s = [] := by unfold parseL; rw [h]; rfl
end Go.Proofs.YtmhpmlfpflkgbaaDoor
