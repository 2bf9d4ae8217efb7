/- What the reference's reader finds in a text that was printed. -/
import Derived.Test.YtmhpmlfpflkgbaaDoorRefSort
import Derived.Test.YtmhpmlfpflkgbaaDoorQuoted
namespace Go.Proofs.YtmhpmlfpflkgbaaDoor
open Go.RowKit

def idn (t : Str) : Nat := (t.takeWhile nameCh).length
theorem idn_le (t : Str) : idn t ≤ t.length := (List.takeWhile_sublist _).length_le
theorem takeWhile_app {a b : Str} (ha : ∀ x ∈ a, nameCh x = true) (hb : ∀ c r, b = c :: r → nameCh c = false) : (a ++ b).takeWhile nameCh = a := by
  rw [List.takeWhile_append_of_pos ha]
  cases b with
  | nil => simp
  | cons c r => rw [List.takeWhile_cons, hb c r rfl]; simp
theorem name_chs {s : Str} (h : fName s = true) : ∀ x ∈ s, nameCh x = true := by
  unfold fName at h
  simp only [Bool.and_eq_true, List.all_eq_true] at h
  exact h.2
def behind (rest : List Pr) : Str := if rest = [] then [125] else 44 :: (inner rest ++ [125])
theorem inner_split (p : Pr) (rest : List Pr) : inner (p :: rest) ++ [125] = p.1 ++ 61 :: (34 :: (esc p.2 ++ 34 :: behind rest)) := by
  unfold behind
  cases rest with
  | nil => rw [inner_one, if_pos rfl]; unfold pairT; simp
  | cons q r => rw [inner_cons, if_neg (by simp)]; unfold pairT; simp
theorem qd_bound : ∀ (k : Nat) (s : Str), s.length ≤ k → ∀ x, qd s = some x → x.2 ≤ s.length ∧ x.1.length ≤ s.length
  | _, [], _, x, e => by cases e
  | 0, c :: r, h, x, e => by simp at h
  | k + 1, c :: r, h, x, e => by
    rw [List.length_cons] at h
    by_cases h1 : c = 34
    · subst h1
      rw [qd_quote] at e
      cases e
      simp
    · by_cases h2 : c = 92
      · subst h2
        cases r with
        | nil => rw [qd] at e; simp at e
        | cons d r2 =>
          by_cases h3 : d = 34 ∨ d = 92
          · rw [qd_back _ h3, Option.map_eq_some_iff] at e
            obtain ⟨y, hy, rfl⟩ := e
            have := qd_bound k r2 (by rw [List.length_cons] at h; omega) y hy
            simp only [List.length_cons]
            omega
          · rw [qd_back_no _ h3] at e
            cases e
      · by_cases h3 : c = 10
        · subst h3
          rw [qd_line] at e
          cases e
        · rw [qd_plain _ h1 h2 h3, Option.map_eq_some_iff] at e
          obtain ⟨y, hy, rfl⟩ := e
          have := qd_bound k r (by omega) y hy
          simp only [List.length_cons]
          omega
theorem q_bound (s : Str) : qLen s ≤ s.length ∧ (qText s).length ≤ s.length := by
  unfold qLen qText
  split
  · rename_i h
    cases s with
    | nil => cases h
    | cons c r =>
      cases hq : qd r with
      | none => simp [hq]
      | some x =>
        have := qd_bound _ r (Nat.le_refl _) x hq
        simp [hq]
        omega
  · simp
/-- One step of the reader on what was printed. -/
theorem one_step {p : Pr} {rest : List Pr} (hn : fName p.1 = true) (hv : fVal p.2 = true) :
    let t := inner (p :: rest) ++ [125]
    idn t = p.1.length ∧ 1 ≤ p.1.length ∧ p.1.length < t.length ∧ t.getD p.1.length 0 = 61 ∧ t.take p.1.length = p.1 ∧ qText (t.drop (p.1.length + 1)) = p.2 ∧ qLen (t.drop (p.1.length + 1)) ≠ 0 ∧ t.drop (p.1.length + 1 + qLen (t.drop (p.1.length + 1))) = behind rest := by
  intro t
  have ht : t = p.1 ++ 61 :: (34 :: (esc p.2 ++ 34 :: behind rest)) := inner_split p rest
  have hnl : p.2.contains 10 = false := by
    unfold fVal at hv
    simp only [Bool.and_eq_true] at hv
    simpa using hv.2
  have hd : t.drop (p.1.length + 1) = 34 :: (esc p.2 ++ 34 :: behind rest) := by
    rw [ht, ← List.drop_drop, List.drop_left]
    rfl
  have hq := qd_esc p.2 (behind rest) hnl
  have hl : qLen (t.drop (p.1.length + 1)) = (esc p.2).length + 2 := by
    rw [hd]
    unfold qLen
    rw [if_pos (show ((34 : UInt8) :: (esc p.2 ++ 34 :: behind rest)).head? = some 34 from rfl), List.tail_cons, hq]
    rfl
  have hx : qText (t.drop (p.1.length + 1)) = p.2 := by
    rw [hd]
    unfold qText
    rw [if_pos (show ((34 : UInt8) :: (esc p.2 ++ 34 :: behind rest)).head? = some 34 from rfl), List.tail_cons, hq]
    rfl
  refine ⟨?_, (name_len hn).1, by rw [ht]; simp, by rw [ht]; simp [List.getD], by rw [ht]; simp, hx, by rw [hl]; omega, ?_⟩
  · unfold idn
    rw [ht, takeWhile_app (name_chs hn) (fun c r e => by cases e; decide)]
  · rw [hl, ← List.drop_drop, hd]
    have : (34 : UInt8) :: (esc p.2 ++ 34 :: behind rest) = (34 :: (esc p.2 ++ [34])) ++ behind rest := by simp
    rw [this]
    have e2 : (esc p.2).length + 2 = ((34 : UInt8) :: (esc p.2 ++ [34])).length := by simp
    rw [e2, List.drop_left]
def mpair (m : List Pr) : List Pr := if metric m = [] then [] else [(nm, metric m)]
def st (s t : Str) (out : List Pr) : Prop := ∀ m, fIs m = true → fPrint m = s → ∃ dn rest, others m = dn ++ rest ∧ t = inner rest ++ [125] ∧ out = mpair m ++ dn
theorem others_mem {m : List Pr} {p : Pr} (h : p ∈ others m) : p ∈ m := by
  rw [others_oth] at h
  exact (List.mem_filter.1 h).1
theorem st_fact {s t : Str} {out : List Pr} (h : st s t out) (hne : t ≠ [125]) (ok : okParse s = true) :
    idn t ≠ 0 ∧ idn t < t.length ∧ t.getD (idn t) 0 = 61 ∧ qLen (t.drop (idn t + 1)) ≠ 0 ∧
      (t.drop (idn t + 1 + qLen (t.drop (idn t + 1))) = [125] ∨ ((t.drop (idn t + 1 + qLen (t.drop (idn t + 1)))).head? = some 44 ∧ t.drop (idn t + 1 + qLen (t.drop (idn t + 1))) ≠ [44, 125])) := by
  obtain ⟨m, hm, hp⟩ := (okParse_iff s).1 ok
  obtain ⟨dn, rest, ho, rfl, _⟩ := h m hm hp
  cases rest with
  | nil => exact absurd (by simp [inner, Lib.join_nil]) hne
  | cons p rest =>
    have hpm : p ∈ m := others_mem (by rw [ho]; simp)
    have hc := ((is_iff m).1 hm).2.1 p hpm
    obtain ⟨e1, e2, e3, e4, e5, e6, e7, e8⟩ := one_step (rest := rest) hc.1 hc.2
    rw [e1, e8]
    refine ⟨by omega, e3, e4, e7, ?_⟩
    unfold behind
    cases rest with
    | nil => left; rfl
    | cons q r =>
      right
      rw [if_neg (by simp)]
      refine ⟨rfl, fun e => ?_⟩
      have hl := inner_len (q :: r)
      have e2 : inner (q :: r) ++ [125] = [125] := (List.cons.inj e).2
      have e' := congrArg List.length e2
      simp only [List.length_append, List.length_cons, List.length_nil] at e' hl
      omega
theorem st_next {s t : Str} {out : List Pr} (h : st s t out) (hne : t ≠ [125]) :
    (t.drop (idn t + 1 + qLen (t.drop (idn t + 1))) = [125] → st s [125] (out ++ [(t.take (idn t), qText (t.drop (idn t + 1)))])) ∧
    ((t.drop (idn t + 1 + qLen (t.drop (idn t + 1)))).head? = some 44 → st s ((t.drop (idn t + 1 + qLen (t.drop (idn t + 1)))).drop 1) (out ++ [(t.take (idn t), qText (t.drop (idn t + 1)))])) := by
  have key : ∀ m, fIs m = true → fPrint m = s → ∃ dn p rest, others m = dn ++ p :: rest ∧ out = mpair m ++ dn ∧ (t.take (idn t), qText (t.drop (idn t + 1))) = p ∧ t.drop (idn t + 1 + qLen (t.drop (idn t + 1))) = behind rest := fun m hm hp => by
    obtain ⟨dn, rest, ho, rfl, hout⟩ := h m hm hp
    cases rest with
    | nil => exact absurd (by simp [inner, Lib.join_nil]) hne
    | cons p rest =>
      have hpm : p ∈ m := others_mem (by rw [ho]; simp)
      have hc := ((is_iff m).1 hm).2.1 p hpm
      obtain ⟨e1, e2, e3, e4, e5, e6, e7, e8⟩ := one_step (rest := rest) hc.1 hc.2
      rw [e1, e5, e6, e8]
      exact ⟨dn, p, rest, ho, hout, rfl, rfl⟩
  refine ⟨fun ht m hm hp => ?_, fun ht m hm hp => ?_⟩
  · obtain ⟨dn, p, rest, ho, hout, he, hb⟩ := key m hm hp
    rw [ht] at hb
    have hr : rest = [] := by
      by_cases hr : rest = []
      · exact hr
      · unfold behind at hb
        rw [if_neg hr] at hb
        cases hb
    subst hr
    exact ⟨dn ++ [p], [], by rw [ho]; simp, by simp [inner, Lib.join_nil], by rw [hout, he]; simp⟩
  · obtain ⟨dn, p, rest, ho, hout, he, hb⟩ := key m hm hp
    rw [hb] at ht ⊢
    have hr : rest ≠ [] := fun hr => by rw [hr] at ht; cases ht
    refine ⟨dn ++ [p], rest, by rw [ho]; simp, ?_, by rw [hout, he]; simp⟩
    unfold behind
    rw [if_neg hr]
    rfl
end Go.Proofs.YtmhpmlfpflkgbaaDoor
