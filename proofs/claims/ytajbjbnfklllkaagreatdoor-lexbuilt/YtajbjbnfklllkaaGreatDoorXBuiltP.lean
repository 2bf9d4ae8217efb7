/- One number, duration, text, name by itself: nothing of the program is run here. -/
import Derived.Test.YtajbjbnfklllkaaGreatDoorXJoinP
namespace Go.Proofs.YtajbjbnfklllkaaGreatDoor
open Go.RowKit

theorem one_ok {s : Str} {x : Tk} (hl : s.length ≤ 600) (hb : ∃ c q, s = c :: q ∧ blB c = false) (ht : tok s = some (x, s.length)) : scE s = 0 ∧ scL s = [x.put 0, tEnd s.length] := by
  obtain ⟨c, q, e, hc⟩ := hb
  have hlead : lead s = s := by rw [e]; exact lead_cons hc
  have hne : s ≠ [] := by rw [e]; simp
  have h1 : 1 ≤ s.length := by rw [e]; simp
  have hsc : sc s = .inr [x.put 0] := by
    unfold sc
    rw [hlead, scanG_some hne ht h1, List.drop_of_length_le (Nat.le_refl _)]
    show push _ (scanG _ []) = _
    rw [scanG_nil, Nat.sub_self]
    rfl
  obtain ⟨e1, _, e3⟩ := sc_ok (by omega) hsc
  exact ⟨e1, e3⟩
theorem one_bad {s : Str} (hl : s.length ≤ 600) (hb : ∃ c q, s = c :: q ∧ blB c = false) (ht : tok s = none) : scE s = 70 ∧ scL s = [] := by
  obtain ⟨c, q, e, hc⟩ := hb
  have hlead : lead s = s := by rw [e]; exact lead_cons hc
  have hne : s ≠ [] := by rw [e]; simp
  have hsc : sc s = .inl (s.length - s.length) := by
    unfold sc
    rw [hlead, scanG_none hne ht]
  obtain ⟨e1, _, e3⟩ := sc_bad (by omega) hsc
  exact ⟨e1, e3⟩
theorem dig_blank {c : UInt8} (h : Fx.isDg c = true) : blB c = false := by
  cases hb : blB c with
  | false => rfl
  | true =>
    unfold blB at hb
    simp at hb
    rcases hb with rfl | rfl <;> exact absurd h (by decide)
theorem num_one {n : Nat} (h : n ≤ 4294967295) : scE (Lib.decDigits n) = 0 ∧ scL (Lib.decDigits n) = [(tNum ((n : Int) * 1000000)).put 0, tEnd (Lib.decDigits n).length] := by
  have hok : Okt (tNum ((n : Int) * 1000000)) := Or.inr (Or.inl ⟨_, by omega, by omega, rfl⟩)
  have hp : prT (tNum ((n : Int) * 1000000)) = Lib.decDigits n := by
    rw [pr_num (by omega)]
    unfold Fx.prU
    rw [show ((n : Int) * 1000000).toNat = n * 1000000 by omega, show n * 1000000 / 1000000 = n by omega, show n * 1000000 % 1000000 = 0 by omega]
    simp
  have ht := tok_print (r := []) hok (Or.inl rfl)
  rw [List.append_nil, hp] at ht
  have hl := Fx.dec_short (u := n) (by omega)
  obtain ⟨c, q, e, hc, _⟩ := Fx.dec_head n
  exact one_ok (by omega) ⟨c, q, e, dig_blank hc⟩ ht
theorem dur_one {n : Nat} (h : n ≤ 199) : (1 ≤ n ∧ n ≤ 100 ∧ scE (Lib.decDigits n ++ [116]) = 0 ∧ scL (Lib.decDigits n ++ [116]) = [(tDur n).put 0, tEnd (Lib.decDigits n ++ [116]).length]) ∨ (¬ (1 ≤ n ∧ n ≤ 100) ∧ scE (Lib.decDigits n ++ [116]) = 70 ∧ scL (Lib.decDigits n ++ [116]) = []) := by
  have hl := Fx.dec_short (u := n) (by omega)
  have hl2 : (Lib.decDigits n ++ [116]).length ≤ 600 := by simp; omega
  obtain ⟨c, q, e, hc, _⟩ := Fx.dec_head n
  have hb : ∃ c' q', Lib.decDigits n ++ [116] = c' :: q' ∧ blB c' = false := ⟨c, q ++ [116], by rw [e]; rfl, dig_blank hc⟩
  by_cases hn : 1 ≤ n ∧ n ≤ 100
  · have ht := tok_print (x := tDur n) (r := []) (Or.inr (Or.inr (Or.inl ⟨n, hn.1, hn.2, rfl⟩))) (Or.inl rfl)
    rw [List.append_nil, pr_dur] at ht
    obtain ⟨e1, e2⟩ := one_ok hl2 hb ht
    exact Or.inl ⟨hn.1, hn.2, e1, e2⟩
  · have ht : tok (Lib.decDigits n ++ [116]) = none := by
      have hdd := dgs_mem (Fx.dgs_dec n)
      have hg : dgN (Lib.decDigits n ++ [116]) = (Lib.decDigits n).length := run_eq hdd (fun c q e => by injection e with e _; subst e; decide)
      have hne : Lib.decDigits n ≠ [] := Fx.dec_ne n
      have hd0 : digB ((Lib.decDigits n).headD 0) = true := by rw [e, dig_dg]; exact hc
      unfold tok
      rw [headD_app _ hne, hd0]
      simp only [if_true]
      unfold tkAmt
      rw [hg, List.drop_left, List.take_left, if_pos (by rfl)]
      unfold tkDur
      rw [if_neg]
      intro h
      have := duOk_of h
      rw [Fx.rd_dec] at this
      exact hn ⟨this.2.2.2.2.1, this.2.2.2.2.2⟩
    obtain ⟨e1, e2⟩ := one_bad hl2 hb ht
    exact Or.inr ⟨hn, e1, e2⟩
theorem text_one {t : Str} (hl : t.length ≤ 60) (hn : t.contains 10 = false) : (t.length ≤ 30 ∧ scE ([34] ++ esc t ++ [34]) = 0 ∧ scL ([34] ++ esc t ++ [34]) = [(tText t).put 0, tEnd ([34] ++ esc t ++ [34]).length]) ∨ (30 < t.length ∧ scE ([34] ++ esc t ++ [34]) = 70 ∧ scL ([34] ++ esc t ++ [34]) = []) := by
  have he := esc_len t
  have hl2 : ([34] ++ esc t ++ [34]).length ≤ 600 := by simp; omega
  have hb : ∃ c' q', [34] ++ esc t ++ [34] = c' :: q' ∧ blB c' = false := ⟨34, _, rfl, by decide⟩
  by_cases h : t.length ≤ 30
  · have ht := tok_print (x := tText t) (r := []) (Or.inr (Or.inr (Or.inr (Or.inl ⟨t, h, hn, rfl⟩)))) (Or.inl rfl)
    rw [List.append_nil, pr_text] at ht
    obtain ⟨e1, e2⟩ := one_ok hl2 hb ht
    exact Or.inl ⟨h, e1, e2⟩
  · have ht : tok ([34] ++ esc t ++ [34]) = none := by
      have e : [34] ++ esc t ++ [34] = 34 :: (esc t ++ 34 :: []) := by simp
      rw [e]
      have hq := qd_esc t [] hn
      unfold tok
      rw [if_neg (by show ¬ digB 34 = true; decide), if_neg (by show ¬ nameCh 34 = true; decide), if_pos (by rfl)]
      unfold tkTx
      rw [List.tail_cons, hq]
      simp only
      rw [if_neg h]
    obtain ⟨e1, e2⟩ := one_bad hl2 hb ht
    exact Or.inr ⟨by omega, e1, e2⟩
theorem name_one {k : Nat} (h1 : 1 ≤ k) (h : k ≤ 30) : (k ≤ 20 ∧ scE (List.replicate k 97) = 0 ∧ scL (List.replicate k 97) = [(tIdent (List.replicate k 97)).put 0, tEnd (List.replicate k (97 : UInt8)).length]) ∨ (20 < k ∧ scE (List.replicate k 97) = 70 ∧ scL (List.replicate k 97) = []) := by
  have hl2 : (List.replicate k (97 : UInt8)).length ≤ 600 := by simp; omega
  have hb : ∃ c' q', List.replicate k (97 : UInt8) = c' :: q' ∧ blB c' = false := by
    obtain ⟨j, rfl⟩ : ∃ j, k = j + 1 := ⟨k - 1, by omega⟩
    exact ⟨97, List.replicate j 97, by rw [List.replicate_succ], by decide⟩
  have hall : ∀ x ∈ List.replicate k (97 : UInt8), nameCh x = true := fun x hx => by
    rw [(List.mem_replicate.1 hx).2]
    decide
  have hf : fName (List.replicate k 97) = decide (k ≤ 20) := by
    unfold fName
    have e1 : (List.replicate k (97 : UInt8)).all nameCh = true := List.all_eq_true.2 hall
    have e2 : (List.replicate k (97 : UInt8)).headD 0 = 97 := by
      obtain ⟨j, rfl⟩ : ∃ j, k = j + 1 := ⟨k - 1, by omega⟩
      rw [List.replicate_succ]
      rfl
    rw [e1, e2, List.length_replicate, decide_eq_true h1]
    have : digB 97 = false := by decide
    rw [this]
    simp
  by_cases h20 : k ≤ 20
  · rw [decide_eq_true h20] at hf
    have ht := tok_print (x := tIdent (List.replicate k 97)) (r := []) (Or.inl ⟨_, hf, rfl⟩) (Or.inl rfl)
    rw [List.append_nil, pr_ident] at ht
    obtain ⟨e1, e2⟩ := one_ok hl2 hb ht
    exact Or.inl ⟨h20, e1, e2⟩
  · rw [decide_eq_false h20] at hf
    have ht : tok (List.replicate k 97) = none := by
      have hid : idN (List.replicate k 97) = k := by
        have := run_eq (p := nameCh) (a := List.replicate k 97) (b := []) hall (fun c q e => by cases e)
        rw [List.append_nil, List.length_replicate] at this
        exact this
      have e2 : (List.replicate k (97 : UInt8)).headD 0 = 97 := by
        obtain ⟨j, rfl⟩ : ∃ j, k = j + 1 := ⟨k - 1, by omega⟩
        rw [List.replicate_succ]
        rfl
      unfold tok
      rw [e2, if_neg (by decide), if_pos (by decide), hid, List.take_of_length_le (by simp)]
      unfold tkId
      rw [if_neg (by rw [hf]; simp)]
    obtain ⟨e1, e2⟩ := one_bad hl2 hb ht
    exact Or.inr ⟨by omega, e1, e2⟩
end Go.Proofs.YtajbjbnfklllkaaGreatDoor
