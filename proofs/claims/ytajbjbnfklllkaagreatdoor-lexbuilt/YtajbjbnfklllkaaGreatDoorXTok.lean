/- What a sign is, how it is printed, that it is read again; what stands behind a blank changes nothing: nothing of the program is run here. -/
import Derived.Test.YtajbjbnfklllkaaGreatDoorXNum
namespace Go.Proofs.YtajbjbnfklllkaaGreatDoor
open Go.RowKit

def prT (x : Tk) : Str := if x.k = 1 ∨ x.k = 5 then x.t else if x.k = 2 then Fx.fPrint (Fx.cnt x.o x.n) else if x.k = 3 then Lib.itoa x.d ++ [116] else if x.k = 4 then [34] ++ esc x.t ++ [34] else []
/-- A sign, a name, a number, a duration, a text, within their bounds. -/
def Okt (x : Tk) : Prop := (∃ s, fName s = true ∧ x = tIdent s) ∨ (∃ v : Int, 0 ≤ v ∧ v ≤ 9223372036854775807 ∧ x = tNum v) ∨ (∃ n : Nat, 1 ≤ n ∧ n ≤ 100 ∧ x = tDur n) ∨ (∃ s : Str, s.length ≤ 30 ∧ s.contains 10 = false ∧ x = tText s) ∨ (∃ s, isSg s = true ∧ x = tSign s)
theorem pr_ident (s : Str) : prT (tIdent s) = s := rfl
theorem pr_sign (s : Str) : prT (tSign s) = s := rfl
theorem pr_text (s : Str) : prT (tText s) = [34] ++ esc s ++ [34] := rfl
theorem pr_dur (n : Nat) : prT (tDur n) = Lib.decDigits n ++ [116] := by
  show Lib.itoa (n : Int) ++ [116] = _
  rw [Lib.itoa_nonneg]
theorem pr_num {v : Int} (h0 : 0 ≤ v) : prT (tNum v) = Fx.prU v.toNat := by
  show Fx.fPrint (Fx.cnt false v) = _
  have e : Fx.cnt false v = some v := by
    unfold Fx.cnt
    rw [if_neg]
    intro e
    rcases e with e | e
    · cases e
    · omega
  rw [e]
  show (if v < 0 then [45] else []) ++ Fx.prU v.natAbs = _
  rw [if_neg (by omega), show v.natAbs = v.toNat by omega]
  rfl
theorem fpr_num {v : Int} (h0 : 0 ≤ v) : Fx.fPrint (some v) = Fx.prU v.toNat := by
  show (if v < 0 then [45] else []) ++ Fx.prU v.natAbs = _
  rw [if_neg (by omega), show v.natAbs = v.toNat by omega]
  rfl
theorem dig_dg (c : UInt8) : digB c = Fx.isDg c := by
  unfold digB Fx.isDg
  rw [Bool.eq_iff_iff]
  simp
  omega
theorem dgs_mem {s : Str} (h : Fx.dgs s = true) : ∀ x ∈ s, digB x = true := fun x hx => by
  rw [dig_dg]
  exact List.all_eq_true.1 h x hx
theorem dgs_run (s : Str) : Fx.dgs (s.take (dgN s)) = true := by
  unfold Fx.dgs
  rw [List.all_eq_true]
  intro x hx
  rw [← dig_dg]
  exact run_all x hx

/-! ### A text behind its quote -/
theorem qd_facts : ∀ (k : Nat) (s : Str), s.length ≤ k → ∀ x, qd s = some x → x.2 ≤ s.length ∧ x.1.contains 10 = false ∧ (esc x.1).length + 1 = x.2
  | _, [], _, x, e => by cases e
  | 0, c :: r, h, x, e => by simp at h
  | k + 1, c :: r, h, x, e => by
    rw [List.length_cons] at h
    by_cases h1 : c = 34
    · subst h1
      rw [qd_quote] at e
      cases e
      simp [esc]
    · by_cases h2 : c = 92
      · subst h2
        cases r with
        | nil => rw [qd] at e; simp at e
        | cons d r2 =>
          by_cases h3 : d = 34 ∨ d = 92
          · rw [qd_back _ h3, Option.map_eq_some_iff] at e
            obtain ⟨y, hy, rfl⟩ := e
            obtain ⟨a1, a2, a3⟩ := qd_facts k r2 (by rw [List.length_cons] at h; omega) y hy
            refine ⟨by simp only [List.length_cons]; omega, ?_, ?_⟩
            · rw [List.contains_cons, a2]
              rcases h3 with rfl | rfl <;> decide
            · show (escC d ++ esc y.1).length + 1 = _
              unfold escC
              rw [if_pos (Or.comm.1 h3), List.length_append, ← a3]
              simp
              omega
          · rw [qd_back_no _ h3] at e
            cases e
      · by_cases h3 : c = 10
        · subst h3
          rw [qd_line] at e
          cases e
        · rw [qd_plain _ h1 h2 h3, Option.map_eq_some_iff] at e
          obtain ⟨y, hy, rfl⟩ := e
          obtain ⟨a1, a2, a3⟩ := qd_facts k r (by omega) y hy
          refine ⟨by simp only [List.length_cons]; omega, ?_, ?_⟩
          · rw [List.contains_cons, a2]
            simp
            exact fun e => h3 e.symm
          · show (escC c ++ esc y.1).length + 1 = _
            unfold escC
            rw [if_neg (by rintro (e | e); exact h2 e; exact h1 e), List.length_append, ← a3]
            simp
            omega
theorem qd_more : ∀ (k : Nat) (s b : Str), s.length ≤ k → ∀ x, qd s = some x → qd (s ++ b) = some x
  | _, [], _, _, x, e => by cases e
  | 0, c :: r, _, h, x, e => by simp at h
  | k + 1, c :: r, b, h, x, e => by
    rw [List.length_cons] at h
    rw [List.cons_append]
    by_cases h1 : c = 34
    · subst h1
      rw [qd_quote] at e ⊢
      exact e
    · by_cases h2 : c = 92
      · subst h2
        cases r with
        | nil => rw [qd] at e; simp at e
        | cons d r2 =>
          by_cases h3 : d = 34 ∨ d = 92
          · rw [qd_back _ h3, Option.map_eq_some_iff] at e
            obtain ⟨y, hy, rfl⟩ := e
            rw [List.cons_append, qd_back _ h3, qd_more k r2 b (by rw [List.length_cons] at h; omega) y hy]
            rfl
          · rw [qd_back_no _ h3] at e
            cases e
      · by_cases h3 : c = 10
        · subst h3
          rw [qd_line] at e
          cases e
        · rw [qd_plain _ h1 h2 h3, Option.map_eq_some_iff] at e
          obtain ⟨y, hy, rfl⟩ := e
          rw [qd_plain _ h1 h2 h3, qd_more k r b (by omega) y hy]
          rfl

/-! ### What a text begins with is a sign within its bounds, and no longer printed than written -/
theorem sign_cases {s : Str} (h : isSg s = true) : s = [40] ∨ s = [41] ∨ s = [123] ∨ s = [125] ∨ s = [91] ∨ s = [93] ∨ s = [44] ∨ s = [43] ∨ s = [45] ∨ s = [42] ∨ s = [47] ∨ s = [61] ∨ s = [94, 61] ∨ s = [42, 61] ∨ s = [33, 61] ∨ s = [61, 61] ∨ s = [62] ∨ s = [60] ∨ s = [62, 61] ∨ s = [60, 61] := by
  unfold isSg signs at h
  simpa using h
theorem sign_len {s : Str} (h : isSg s = true) : 1 ≤ s.length ∧ s.length ≤ 2 := by
  rcases sign_cases h with rfl | rfl | rfl | rfl | rfl | rfl | rfl | rfl | rfl | rfl | rfl | rfl | rfl | rfl | rfl | rfl | rfl | rfl | rfl | rfl <;> decide
theorem tok_facts {s : Str} {x : Tk} {k : Nat} (hs : s ≠ []) (h : tok s = some (x, k)) : 1 ≤ k ∧ k ≤ s.length ∧ Okt x ∧ (prT x).length ≤ k := by
  have hl : 1 ≤ s.length := by
    cases s with
    | nil => exact absurd rfl hs
    | cons c r => simp
  unfold tok at h
  split at h
  · rename_i hd
    have hg : 1 ≤ dgN s := by
      cases s with
      | nil => exact absurd rfl hs
      | cons c r =>
        unfold dgN
        rw [List.takeWhile_cons_of_pos (show digB c = true from hd)]
        simp
    have hgl := dgN_le s
    unfold tkAmt at h
    split at h
    · rename_i ht
      unfold tkDur at h
      split at h
      · rename_i ho
        injection h with h
        injection h with h1 h2
        subst h1 h2
        obtain ⟨a1, a2, a3, a4, a5, a6⟩ := duOk_of ho
        have hlt : dgN s < s.length := by
          cases e : s.drop (dgN s) with
          | nil => rw [e] at ht; cases ht
          | cons c r =>
            have := congrArg List.length e
            simp at this
            omega
        refine ⟨by omega, by simp; omega, Or.inr (Or.inr (Or.inl ⟨_, a5, a6, rfl⟩)), ?_⟩
        rw [pr_dur, dec_rd _ _ rfl a3 (fun e => by rw [e] at a1; simp at a1) a4]
        simp
      · cases h
    · have hdl := decN_le (s.drop (dgN s))
      have hL : (s.take (dgN s + decN (s.drop (dgN s)))).length = dgN s + decN (s.drop (dgN s)) := by simp at *; omega
      have hh : (s.take (dgN s + decN (s.drop (dgN s)))).headD 0 = s.headD 0 := by
        cases s with
        | nil => exact absurd rfl hs
        | cons c r =>
          obtain ⟨j, hj⟩ : ∃ j, dgN (c :: r) + decN ((c :: r).drop (dgN (c :: r))) = j + 1 := ⟨dgN (c :: r) + decN ((c :: r).drop (dgN (c :: r))) - 1, by omega⟩
          rw [hj]
          rfl
      unfold tkNum at h
      split at h
      · rename_i v hv
        injection h with h
        injection h with h1 h2
        subst h1 h2
        obtain ⟨n1, n2, n3⟩ := num_facts (by rw [hh]; exact hd) hv
        refine ⟨by omega, by rw [hL]; simp at hdl; omega, Or.inr (Or.inl ⟨v, n1, n2, rfl⟩), ?_⟩
        rw [pr_num n1, ← fpr_num n1]
        exact n3
      · cases h
  · split at h
    · rename_i hd hn
      unfold tkId at h
      split at h
      · rename_i hf
        injection h with h
        injection h with h1 h2
        subst h1 h2
        have hk := name_len hf
        exact ⟨hk.1, by rw [List.length_take]; exact Nat.min_le_right _ _, Or.inl ⟨_, hf, rfl⟩, by rw [pr_ident]; omega⟩
      · cases h
    · split at h
      · unfold tkTx at h
        split at h
        · rename_i y hy
          split at h
          · rename_i hle
            injection h with h
            injection h with h1 h2
            subst h1 h2
            obtain ⟨q1, q2, q3⟩ := qd_facts _ s.tail (Nat.le_refl _) y hy
            simp at q1
            exact ⟨by omega, by omega, Or.inr (Or.inr (Or.inr (Or.inl ⟨_, hle, q2, rfl⟩))), by rw [pr_text]; simp; omega⟩
          · cases h
        · cases h
      · unfold tkSg at h
        split at h
        · rename_i h2
          injection h with h
          injection h with h3 h4
          subst h3 h4
          exact ⟨by omega, h2.1, Or.inr (Or.inr (Or.inr (Or.inr ⟨_, h2.2, rfl⟩))), by rw [pr_sign]; simp; omega⟩
        · split at h
          · rename_i h2
            injection h with h
            injection h with h3 h4
            subst h3 h4
            exact ⟨by omega, hl, Or.inr (Or.inr (Or.inr (Or.inr ⟨_, h2, rfl⟩))), by rw [pr_sign]; simp; omega⟩
          · cases h

/-! ### What stands behind a blank changes nothing -/
theorem sg_blank (c : UInt8) : isSg [c, 32] = false := by
  cases h : isSg [c, 32] with
  | false => rfl
  | true =>
    have := sign_cases h
    simp at this
theorem headD_app {s : Str} (b : Str) (hs : s ≠ []) : (s ++ b).headD 0 = s.headD 0 := by
  cases s with
  | nil => exact absurd rfl hs
  | cons c r => rfl
theorem tok_more {s : Str} {x : Tk} {k : Nat} (b : Str) (hs : s ≠ []) (h : tok s = some (x, k)) : tok (s ++ 32 :: b) = some (x, k) := by
  rw [← h]
  have hg : dgN (s ++ 32 :: b) = dgN s := by unfold dgN; rw [run_more s b (by decide)]
  have hi : idN (s ++ 32 :: b) = idN s := by unfold idN; rw [run_more s b (by decide)]
  unfold tok
  rw [headD_app _ hs]
  unfold tok at h
  split
  · rename_i hd
    unfold tkAmt
    have hgl := dgN_le s
    rw [hg, List.drop_append_of_le_length hgl, List.take_append_of_le_length hgl]
    have hh : ((s.drop (dgN s) ++ 32 :: b).head? = some 116) = ((s.drop (dgN s)).head? = some 116) := by
      cases s.drop (dgN s) with
      | nil => simp
      | cons c r => simp
    have hdn : decN (s.drop (dgN s) ++ 32 :: b) = decN (s.drop (dgN s)) := by
      cases s.drop (dgN s) with
      | nil => rfl
      | cons c r =>
        have : dgN (r ++ 32 :: b) = dgN r := by unfold dgN; rw [run_more r b (by decide)]
        have d1 : ∀ q, decN (c :: q) = if c = 46 then (if dgN q = 0 then 0 else 1 + dgN q) else 0 := fun q => by
          unfold decN
          by_cases hc : c = 46
          · rw [if_pos hc, if_pos (by rw [hc]; rfl)]; rfl
          · rw [if_neg hc, if_neg (by simp [hc])]
        rw [List.cons_append, d1, d1, this]
    have hdl := decN_le (s.drop (dgN s))
    simp at hdl
    rw [hdn, List.take_append_of_le_length (by omega)]
    simp only [hh]
  · split
    · rw [hi, List.take_append_of_le_length (idN_le s)]
    · split
      · rename_i h1 h2 h3
        rw [if_neg h1, if_neg h2, if_pos h3] at h
        have e : (s ++ 32 :: b).tail = s.tail ++ 32 :: b := by
          cases s with
          | nil => exact absurd rfl hs
          | cons c r => rfl
        unfold tkTx at h ⊢
        rw [e]
        cases hq : qd s.tail with
        | none => rw [hq] at h; cases h
        | some y => rw [qd_more _ s.tail _ (Nat.le_refl _) y hq]
      · unfold tkSg
        have e1 : (s ++ 32 :: b).take 1 = s.take 1 := by
          cases s with
          | nil => exact absurd rfl hs
          | cons c r => rfl
        rw [e1]
        by_cases h2 : 2 ≤ s.length
        · rw [List.take_append_of_le_length h2]
          have h2' : 2 ≤ (s ++ 32 :: b).length := by simp; omega
          simp only [h2, h2']
        · obtain ⟨c, rfl⟩ : ∃ c, s = [c] := by
            cases s with
            | nil => exact absurd rfl hs
            | cons c r =>
              cases r with
              | nil => exact ⟨c, rfl⟩
              | cons d r => simp at h2
          rw [show ([c] ++ 32 :: b).take 2 = [c, 32] from rfl, sg_blank]
          have n1 : ¬ (2 ≤ ([c] ++ 32 :: b).length ∧ false = true) := fun e => by cases e.2
          have n2 : ¬ (2 ≤ [c].length ∧ isSg ([c].take 2) = true) := fun e => h2 e.1
          rw [if_neg n1, if_neg n2]

/-! ### What is printed is read -/
theorem gap_dig {r : Str} (h : r = [] ∨ ∃ b, r = 32 :: b) : ∀ c q, r = c :: q → digB c = false := by
  rintro c q rfl
  rcases h with h | ⟨b, h⟩
  · cases h
  · injection h with h _; subst h; decide
theorem gap_name {r : Str} (h : r = [] ∨ ∃ b, r = 32 :: b) : ∀ c q, r = c :: q → nameCh c = false := by
  rintro c q rfl
  rcases h with h | ⟨b, h⟩
  · cases h
  · injection h with h _; subst h; decide
theorem run_eq {p : UInt8 → Bool} {a b : Str} (ha : ∀ x ∈ a, p x = true) (hb : ∀ c r, b = c :: r → p c = false) : ((a ++ b).takeWhile p).length = a.length := by rw [run_app ha hb]
theorem tok_print {x : Tk} {r : Str} (h : Okt x) (hr : r = [] ∨ ∃ b, r = 32 :: b) : tok (prT x ++ r) = some (x, (prT x).length) := by
  rcases h with ⟨s, hs, rfl⟩ | ⟨v, v0, v1, rfl⟩ | ⟨n, n0, n1, rfl⟩ | ⟨s, s0, s1, rfl⟩ | ⟨s, hs, rfl⟩
  · rw [pr_ident]
    have hne := name_ne hs
    have hch := name_no hs
    have hid : idN (s ++ r) = s.length := run_eq hch (gap_name hr)
    unfold tok
    rw [headD_app _ hne]
    have hd0 : digB (s.headD 0) = false := by
      unfold fName at hs
      simp only [Bool.and_eq_true, Bool.not_eq_true'] at hs
      exact hs.1.2
    have hn0 : nameCh (s.headD 0) = true := by
      cases s with
      | nil => exact absurd rfl hne
      | cons c q => exact hch c (by simp)
    rw [hd0, hn0, hid]
    simp [tkId, hs]
  · have hread := Fx.print_read (x := some v) ⟨by show _ ≤ v; omega, v1⟩
    rw [fpr_num v0] at hread
    rw [pr_num v0]
    have hm : v.toNat ≤ 9223372036854775807 := by omega
    generalize hM : v.toNat = m at *
    obtain ⟨c, q, e, hc⟩ := Fx.prU_head m
    have hne : Fx.prU m ≠ [] := by rw [e]; simp
    have hd0 : digB ((Fx.prU m).headD 0) = true := by rw [e, dig_dg]; exact hc
    unfold tok
    rw [headD_app _ hne, hd0]
    simp only [if_true]
    have hnum : tkNum (Fx.prU m) = some (tNum v, (Fx.prU m).length) := by unfold tkNum; rw [hread]
    rw [← hnum]
    clear hread hnum hd0 hne hc e
    unfold tkAmt
    have hdd := dgs_mem (Fx.dgs_dec (m / 1000000))
    by_cases h0 : m % 1000000 = 0
    · have eU : Fx.prU m = Lib.decDigits (m / 1000000) := by unfold Fx.prU; rw [if_pos h0, List.append_nil]
      have hg : dgN (Lib.decDigits (m / 1000000) ++ r) = (Lib.decDigits (m / 1000000)).length := run_eq hdd (gap_dig hr)
      rw [eU, hg, List.drop_left]
      have hn : decN r = 0 := by
        rcases hr with rfl | ⟨b, rfl⟩
        · rfl
        · unfold decN; simp
      have ht : ¬ r.head? = some 116 := by
        rcases hr with rfl | ⟨b, rfl⟩ <;> simp
      rw [if_neg ht, hn, Nat.add_zero, List.take_left]
    · have hF := Fx.frac_facts (r := m % 1000000) (Nat.mod_lt _ (by omega))
      have hFne := Fx.frac_ne (r := m % 1000000) (Nat.mod_lt _ (by omega)) h0
      have eU : Fx.prU m = Lib.decDigits (m / 1000000) ++ 46 :: Fx.fracT (m % 1000000) := by unfold Fx.prU; rw [if_neg h0]
      have hg : dgN (Lib.decDigits (m / 1000000) ++ (46 :: Fx.fracT (m % 1000000) ++ r)) = (Lib.decDigits (m / 1000000)).length := run_eq hdd (fun c q e => by injection e with e _; subst e; decide)
      rw [eU, List.append_assoc, hg, List.drop_left]
      have hg2 : dgN (Fx.fracT (m % 1000000) ++ r) = (Fx.fracT (m % 1000000)).length := run_eq (dgs_mem hF.1) (gap_dig hr)
      have hlen : (Fx.fracT (m % 1000000)).length ≠ 0 := fun e => hFne (List.length_eq_zero_iff.1 e)
      have hn : decN (46 :: Fx.fracT (m % 1000000) ++ r) = 1 + (Fx.fracT (m % 1000000)).length := by
        unfold decN
        rw [if_pos (by rfl)]
        show (if dgN (Fx.fracT (m % 1000000) ++ r) = 0 then 0 else 1 + dgN (Fx.fracT (m % 1000000) ++ r)) = _
        rw [hg2, if_neg hlen]
      rw [if_neg (by simp), hn]
      congr 1
      rw [← List.append_assoc, show (Lib.decDigits (m / 1000000)).length + (1 + (Fx.fracT (m % 1000000)).length) = (Lib.decDigits (m / 1000000) ++ 46 :: Fx.fracT (m % 1000000)).length by simp; omega, List.take_left]
  · rw [pr_dur]
    have hdd := dgs_mem (Fx.dgs_dec n)
    have hg : dgN (Lib.decDigits n ++ ([116] ++ r)) = (Lib.decDigits n).length := run_eq hdd (fun c q e => by injection e with e _; subst e; decide)
    obtain ⟨c, q, e, hc, _⟩ := Fx.dec_head n
    have hne : Lib.decDigits n ≠ [] := by rw [e]; simp
    have hd0 : digB ((Lib.decDigits n).headD 0) = true := by rw [e, dig_dg]; exact hc
    clear e hc
    unfold tok
    rw [List.append_assoc, headD_app _ hne, hd0]
    simp only [if_true]
    unfold tkAmt
    rw [hg, List.drop_left, List.take_left, if_pos (by rfl)]
    unfold tkDur
    rw [if_pos (du_dec n0 n1), Fx.rd_dec]
    simp
  · rw [pr_text]
    have e : [34] ++ esc s ++ [34] ++ r = 34 :: (esc s ++ 34 :: r) := by simp
    rw [e]
    have hq := qd_esc s r s1
    unfold tok
    rw [if_neg (by show ¬ digB 34 = true; decide), if_neg (by show ¬ nameCh 34 = true; decide), if_pos (by rfl)]
    unfold tkTx
    rw [List.tail_cons, hq]
    simp [s0]
  · rw [pr_sign]
    rcases sign_cases hs with rfl | rfl | rfl | rfl | rfl | rfl | rfl | rfl | rfl | rfl | rfl | rfl | rfl | rfl | rfl | rfl | rfl | rfl | rfl | rfl <;> (
      rcases hr with rfl | ⟨b, rfl⟩
      · rfl
      · simp [tok, tkSg, isSg, signs, digB, nameCh, letB])
theorem pr_head {x : Tk} (h : Okt x) : ∃ c q, prT x = c :: q ∧ blB c = false := by
  rcases h with ⟨s, hs, rfl⟩ | ⟨v, v0, v1, rfl⟩ | ⟨n, n0, n1, rfl⟩ | ⟨s, s0, s1, rfl⟩ | ⟨s, hs, rfl⟩
  · have hch := name_no hs
    cases s with
    | nil => exact absurd rfl (name_ne hs)
    | cons c q =>
      refine ⟨c, q, rfl, ?_⟩
      cases hb : blB c with
      | false => rfl
      | true =>
        have := hch c (by simp)
        unfold blB at hb
        simp at hb
        rcases hb with rfl | rfl <;> exact absurd this (by decide)
  · rw [pr_num v0]
    obtain ⟨c, q, e, hc⟩ := Fx.prU_head v.toNat
    refine ⟨c, q, e, ?_⟩
    cases hb : blB c with
    | false => rfl
    | true =>
      unfold blB at hb
      simp at hb
      rcases hb with rfl | rfl <;> exact absurd hc (by decide)
  · rw [pr_dur]
    obtain ⟨c, q, e, hc, _⟩ := Fx.dec_head n
    refine ⟨c, q ++ [116], by rw [e]; rfl, ?_⟩
    cases hb : blB c with
    | false => rfl
    | true =>
      unfold blB at hb
      simp at hb
      rcases hb with rfl | rfl <;> exact absurd hc (by decide)
  · exact ⟨34, _, rfl, by decide⟩
  · rcases sign_cases hs with rfl | rfl | rfl | rfl | rfl | rfl | rfl | rfl | rfl | rfl | rfl | rfl | rfl | rfl | rfl | rfl | rfl | rfl | rfl | rfl <;> exact ⟨_, _, rfl, by decide⟩
end Go.Proofs.YtajbjbnfklllkaaGreatDoor
