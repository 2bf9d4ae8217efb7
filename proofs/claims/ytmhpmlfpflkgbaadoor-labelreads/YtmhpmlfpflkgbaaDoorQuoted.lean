/- The reference's Quoted. -/
import Derived.Test.YtmhpmlfpflkgbaaDoorRefC
namespace Go.Proofs.YtmhpmlfpflkgbaaDoor
open Go.RowKit

/-- Behind the first quote: the text, and how many bytes with the closing quote. -/
def qd : Str → Option (Str × Nat)
  | [] => none
  | [c] => if c = 34 then some ([], 1) else none
  | c :: d :: r =>
    if c = 34 then some ([], 1)
    else if c = 92 then (if d = 34 ∨ d = 92 then (qd r).map fun x => (d :: x.1, x.2 + 2) else none)
    else if c = 10 then none
    else (qd (d :: r)).map fun x => (c :: x.1, x.2 + 1)
theorem qd_quote (r : Str) : qd (34 :: r) = some ([], 1) := by
  cases r with
  | nil => rfl
  | cons d r => rw [qd, if_pos rfl]
theorem qd_plain {c : UInt8} (r : Str) (h1 : c ≠ 34) (h2 : c ≠ 92) (h3 : c ≠ 10) : qd (c :: r) = (qd r).map fun x => (c :: x.1, x.2 + 1) := by
  cases r with
  | nil =>
    show (if c = 34 then some ([], 1) else none) = none
    rw [if_neg h1]
  | cons d r => rw [qd, if_neg h1, if_neg h2, if_neg h3]
theorem qd_back {d : UInt8} (r : Str) (h : d = 34 ∨ d = 92) : qd (92 :: d :: r) = (qd r).map fun x => (d :: x.1, x.2 + 2) := by
  rw [qd, if_neg (by decide), if_pos rfl, if_pos h]
theorem qd_back_no {d : UInt8} (r : Str) (h : ¬ (d = 34 ∨ d = 92)) : qd (92 :: d :: r) = none := by
  rw [qd, if_neg (by decide), if_pos rfl, if_neg h]
theorem qd_line (r : Str) : qd (10 :: r) = none := by
  cases r with
  | nil => rfl
  | cons d r => rw [qd, if_neg (by decide), if_neg (by decide), if_pos rfl]
def qText (s : Str) : Str := if s.head? = some 34 then ((qd s.tail).map (·.1)).getD [] else []
def qLen (s : Str) : Nat := if s.head? = some 34 then ((qd s.tail).map (·.2 + 1)).getD 0 else 0
theorem qd_esc (v r : Str) (hv : v.contains 10 = false) : qd (esc v ++ 34 :: r) = some (v, (esc v).length + 1) := by
  induction v with
  | nil => exact qd_quote r
  | cons c v ih =>
    rw [List.contains_cons, Bool.or_eq_false_iff] at hv
    have hc : c ≠ 10 := fun e => by rw [e] at hv; simp at hv
    have := ih hv.2
    have e1 : esc (c :: v) = escC c ++ esc v := rfl
    rw [e1]
    unfold escC
    by_cases h : c = 92 ∨ c = 34
    · rw [if_pos h]
      show qd (92 :: c :: (esc v ++ 34 :: r)) = _
      rw [qd_back _ (Or.comm.1 h), this]
      simp
    · rw [if_neg h]
      show qd (c :: (esc v ++ 34 :: r)) = _
      rw [qd_plain _ (fun e => h (Or.inr e)) (fun e => h (Or.inl e)) hc, this]
      simp
/-- What the loop holds at place i: what is read, and what is left to read. -/
def qAt (s : Str) (i : Nat) (b : Str) : Prop := qd (s.drop 1) = (qd (s.drop i)).map fun x => (b ++ x.1, (i - 1) + x.2)
theorem qAt_start (s : Str) : qAt s 1 [] := by
  unfold qAt
  cases qd (s.drop 1) <;> simp
theorem qAt_plain {s b : Str} {i : Nat} (h : i < s.length) (h0 : 1 ≤ i) (hq : qAt s i b) (h1 : s[i] ≠ 34) (h2 : s[i] ≠ 92) (h3 : s[i] ≠ 10) : qAt s (i + 1) (b ++ [s[i]]) := by
  unfold qAt at *
  rw [hq, List.drop_eq_getElem_cons h, qd_plain _ h1 h2 h3]
  cases qd (s.drop (i + 1)) with
  | none => rfl
  | some x => simp; omega
theorem qAt_back {s b : Str} {i : Nat} (h : i + 1 < s.length) (h0 : 1 ≤ i) (hq : qAt s i b) (h1 : s[i] = 92) (h2 : s[i + 1] = 34 ∨ s[i + 1] = 92) : qAt s (i + 2) (b ++ [s[i + 1]]) := by
  unfold qAt at *
  rw [hq, List.drop_eq_getElem_cons (show i < s.length by omega), List.drop_eq_getElem_cons h, h1, qd_back _ h2]
  cases qd (s.drop (i + 1 + 1)) with
  | none => rfl
  | some x => simp; omega
theorem qAt_end {s b : Str} {i : Nat} (h : i < s.length) (h0 : 1 ≤ i) (hq : qAt s i b) (h1 : s[i] = 34) : qd (s.drop 1) = some (b, i) := by
  unfold qAt at hq
  rw [hq, List.drop_eq_getElem_cons h, h1, qd_quote]
  simp
  omega
theorem qAt_none {s b : Str} {i : Nat} (hq : qAt s i b) (h : qd (s.drop i) = none) : qd (s.drop 1) = none := by
  unfold qAt at hq
  rw [hq, h]
  rfl

theorem q_some {s : Str} {x : Str × Nat} (h0 : s.head? = some 34) (h : qd (s.drop 1) = some x) : qText s = x.1 ∧ qLen s = x.2 + 1 := by
  unfold qText qLen
  rw [if_pos h0, if_pos h0, ← List.drop_one, h]
  exact ⟨rfl, rfl⟩
theorem q_none {s : Str} (h : qd (s.drop 1) = none) : qText s = [] ∧ qLen s = 0 := by
  unfold qText qLen
  rw [← List.drop_one, h]
  simp
theorem q_not {s : Str} (h : s.head? ≠ some 34) : qText s = [] ∧ qLen s = 0 := by
  unfold qText qLen
  rw [if_neg h, if_neg h]
  exact ⟨rfl, rfl⟩
theorem head_at {s : Str} (h : 0 < s.length) : s.head? = some s[0] := by
  cases s with
  | nil => cases h
  | cons c r => rfl
theorem ownB_none (w : World) (base : Nat) : OwnB w base (.slice none 0 0) [] := ⟨rfl, Or.inl ⟨rfl, rfl⟩⟩

set_option maxRecDepth 100000 in
set_option maxHeartbeats 4000000 in
theorem quoted_any (s : Str) (w : World) (hs : s.length ≤ 1000000) : Calls Tryd.prog 24 #[tx s] w fun e w' => e = .returned (.tuple #[tx (qText s), .int .i64 (qLen s : Nat)]) ∧ Below w.heap.size w w' := by
  obtain ⟨i0, hi, hz0, hz1, hz2⟩ := info_parts5
  by_cases he : s = []
  · have HQ : Hid (qText s = [] ∧ qLen s = 0) := q_not (by rw [he]; simp)
    have he' : (s == []) = true := by simpa using he
    clear he
    go_enter Tryd.func24, Tryd.ntmps24
    go_wp2_with fail
    go_ret2
    exact ⟨by rw [HQ.out.1, HQ.out.2]; rfl, Below.refl _ _⟩
  · have he' : (s == []) = false := by simpa using he
    have hpos : 0 < s.length := List.length_pos_iff.2 he
    have hb0 := ba_lt hpos
    have HH : Hid (s.head? = some ((⟨s.toArray⟩ : ByteArray)[0]'hb0)) := head_at hpos
    clear he
    by_cases hq0 : (((⟨s.toArray⟩ : ByteArray)[0]'hb0).toNat : Int) = 34
    · have HH34 : Hid (s.head? = some 34) := by show _ = _; rw [HH.out, byte_eq (k := 34) (by decide) hq0]; rfl
      have hq0' : ((((⟨s.toArray⟩ : ByteArray)[0]'hb0).toNat : Int) == 34) = true := beq_iff_eq.2 hq0
      have hq0n : ((((⟨s.toArray⟩ : ByteArray)[0]'hb0).toNat : Int) != 34) = false := by rw [bne, hq0']; rfl
      clear hq0 HH
      go_enter Tryd.func24, Tryd.ntmps24
      go_wp2_with fail
      go_loopw [5, 4] (fun i u wr => ∃ (j : Nat) (v : Value) (l : Str), j ≤ s.length ∧ 1 ≤ j ∧ l.length ≤ j ∧ i = .int .i64 j ∧ v = u ∧ OwnB wr w.heap.size v l ∧ Hid (qAt s j l) ∧ Below w.heap.size w wr) (fun i _ _ => s.length - (intOf i).toNat)
      case atStart => exact ⟨1, _, [], by omega, by omega, by simp, rfl, rfl, ownB_none _ _, qAt_start s, Below.refl _ _⟩
      case round =>
        obtain ⟨j, v, l, hj, hj1, hlj, rfl, rfl, ho, HR, hb⟩ := hrel
        have hcv := ho.string
        by_cases hlt : j < s.length
        · have hbk := ba_lt hlt
          have HC : Hid (s[j] = ((⟨s.toArray⟩ : ByteArray)[j]'hbk)) := rfl
          by_cases hq : (((⟨s.toArray⟩ : ByteArray)[j]'hbk).toNat : Int) = 34
          · have HQ : Hid (qText s = l ∧ qLen s = j + 1) := q_some HH34.out (qAt_end hlt hj1 HR.out (by rw [HC.out]; exact byte_eq (k := 34) (by decide) hq))
            clear HR HC
            have hq' : ((((⟨s.toArray⟩ : ByteArray)[j]'hbk).toNat : Int) == 34) = true := beq_iff_eq.2 hq
            clear hq
            have hcd : ∀ k, (convert 42 9 v).run Tryd.prog (wr.drewN k) = .ok (tx l) (wr.drewN k) := fun k => hcv _ (below_drewN (Below.refl _ _) k)
            have hc0 := hcv wr (Below.refl _ _)
            have hwr : IntKind.i64.wrap ((j : Int) + 1) = (j : Int) + 1 := by rw [IntKind.wrap_i64]; omega
            clear hcv
            go_wp2_with fail
            go_ret2
            exact ⟨by rw [HQ.out.1, HQ.out.2]; rfl, hb⟩
          · have hq1 := byte_ne (k := 34) (by decide) hq
            have hq' : ((((⟨s.toArray⟩ : ByteArray)[j]'hbk).toNat : Int) == 34) = false := beq_eq_false_iff_ne.2 hq
            by_cases hk : (((⟨s.toArray⟩ : ByteArray)[j]'hbk).toNat : Int) = 92
            · have hk' : ((((⟨s.toArray⟩ : ByteArray)[j]'hbk).toNat : Int) == 92) = true := beq_iff_eq.2 hk
              have hk2 : s[j] = 92 := by rw [HC.out]; exact byte_eq (k := 92) (by decide) hk
              have hwr : IntKind.i64.wrap ((j : Int) + 1) = (j : Int) + 1 := by rw [IntKind.wrap_i64]; omega
              by_cases h1 : j + 1 < s.length
              · have hbk1 := ba_lt h1
                have h1' : ¬ (s.length : Int) ≤ (j : Int) + 1 := by omega
                have HC1 : Hid (s[j + 1] = ((⟨s.toArray⟩ : ByteArray)[j + 1]'hbk1)) := rfl
                have hix : ∀ W, (Instr.index 9 (tx s) (.int .i64 ((j : Int) + 1))).run Tryd.prog W = .ok (by8 ((⟨s.toArray⟩ : ByteArray)[j + 1]'hbk1)) W := fun W => index_at s (j + 1) hbk1 W
                by_cases d1 : (((⟨s.toArray⟩ : ByteArray)[j + 1]'hbk1).toNat : Int) = 34
                · have HN : Hid (qAt s (j + 2) (l ++ [((⟨s.toArray⟩ : ByteArray)[j + 1]'hbk1)])) := qAt_back h1 hj1 HR.out hk2 (Or.inl (by rw [HC1.out]; exact byte_eq (k := 34) (by decide) d1))
                  have d1' : ((((⟨s.toArray⟩ : ByteArray)[j + 1]'hbk1).toNat : Int) == 34) = true := beq_iff_eq.2 d1
                  have d1n : ((((⟨s.toArray⟩ : ByteArray)[j + 1]'hbk1).toNat : Int) != 34) = false := by rw [bne, d1']; rfl
                  clear HR hq hq1 hk hk2 hcv d1 HC HC1
                  have ho1 := ho.later (bal (Below.refl _ _) (.cells #[by8 ((⟨s.toArray⟩ : ByteArray)[j + 1]'hbk1)] 5))
                  have hbo := bal hb (.cells #[by8 ((⟨s.toArray⟩ : ByteArray)[j + 1]'hbk1)] 5)
                  go_wp2_with (at_builtin; go_must (refine wpList_append_own _ rfl _ _ 42 rfl w.heap.size 5 i0 (.int .u8 0) 1 1 Tryd.underlying42 hi hz0 hz1 hz2 rfl (by decide) _ _ _ rfl ho1 ⟨wr.heap.size, 0, none⟩ 1 1 [by8 ((⟨s.toArray⟩ : ByteArray)[j + 1]'hbk1)] rfl rfl (one_cell (World.cell?_alloc_new wr _ _ 0)) (fun u hu => by cases hu with | head => rfl | tail _ h => cases h) ?h63 ?hby ?hbs ?_))
                  case h63 => unfold maxLen; omega
                  case hby => omega
                  case hbs => have := hb.size; simp; omega
                  intro v' w2 ho4 hg4 _
                  go_wp2
                  go_roundw
                  case rel => exact ⟨j + 2, _, l ++ [((⟨s.toArray⟩ : ByteArray)[j + 1]'hbk1)], by omega, by omega, by simp; omega, by go_num, rfl, OwnB.snoc ho4, HN, hbo.grown hg4 hbo.size (fun k hk => (World.ownsRow.lt ho1 k hk).1)⟩
                  case measure => simp [intOf]; omega
                · have d1' : ((((⟨s.toArray⟩ : ByteArray)[j + 1]'hbk1).toNat : Int) == 34) = false := beq_eq_false_iff_ne.2 d1
                  have d1n : ((((⟨s.toArray⟩ : ByteArray)[j + 1]'hbk1).toNat : Int) != 34) = true := by rw [bne, d1']; rfl
                  by_cases d2 : (((⟨s.toArray⟩ : ByteArray)[j + 1]'hbk1).toNat : Int) = 92
                  · have HN : Hid (qAt s (j + 2) (l ++ [((⟨s.toArray⟩ : ByteArray)[j + 1]'hbk1)])) := qAt_back h1 hj1 HR.out hk2 (Or.inr (by rw [HC1.out]; exact byte_eq (k := 92) (by decide) d2))
                    have d2' : ((((⟨s.toArray⟩ : ByteArray)[j + 1]'hbk1).toNat : Int) == 92) = true := beq_iff_eq.2 d2
                    have d2n : ((((⟨s.toArray⟩ : ByteArray)[j + 1]'hbk1).toNat : Int) != 92) = false := by rw [bne, d2']; rfl
                    clear HR hq hq1 hk hk2 hcv d1 d2 HC HC1
                    have ho1 := ho.later (bal (Below.refl _ _) (.cells #[by8 ((⟨s.toArray⟩ : ByteArray)[j + 1]'hbk1)] 5))
                    have hbo := bal hb (.cells #[by8 ((⟨s.toArray⟩ : ByteArray)[j + 1]'hbk1)] 5)
                    go_wp2_with (at_builtin; go_must (refine wpList_append_own _ rfl _ _ 42 rfl w.heap.size 5 i0 (.int .u8 0) 1 1 Tryd.underlying42 hi hz0 hz1 hz2 rfl (by decide) _ _ _ rfl ho1 ⟨wr.heap.size, 0, none⟩ 1 1 [by8 ((⟨s.toArray⟩ : ByteArray)[j + 1]'hbk1)] rfl rfl (one_cell (World.cell?_alloc_new wr _ _ 0)) (fun u hu => by cases hu with | head => rfl | tail _ h => cases h) ?h63 ?hby ?hbs ?_))
                    case h63 => unfold maxLen; omega
                    case hby => omega
                    case hbs => have := hb.size; simp; omega
                    intro v' w2 ho4 hg4 _
                    go_wp2
                    go_roundw
                    case rel => exact ⟨j + 2, _, l ++ [((⟨s.toArray⟩ : ByteArray)[j + 1]'hbk1)], by omega, by omega, by simp; omega, by go_num, rfl, OwnB.snoc ho4, HN, hbo.grown hg4 hbo.size (fun k hk => (World.ownsRow.lt ho1 k hk).1)⟩
                    case measure => simp [intOf]; omega
                  · have d2' : ((((⟨s.toArray⟩ : ByteArray)[j + 1]'hbk1).toNat : Int) == 92) = false := beq_eq_false_iff_ne.2 d2
                    have d2n : ((((⟨s.toArray⟩ : ByteArray)[j + 1]'hbk1).toNat : Int) != 92) = true := by rw [bne, d2']; rfl
                    have HQ : Hid (qText s = [] ∧ qLen s = 0) := q_none (qAt_none HR.out (by
                      rw [List.drop_eq_getElem_cons hlt, List.drop_eq_getElem_cons h1, hk2]
                      refine qd_back_no _ ?_
                      rintro (e | e)
                      · exact byte_ne (k := 34) (by decide) d1 (by rw [← HC1.out, e]; rfl)
                      · exact byte_ne (k := 92) (by decide) d2 (by rw [← HC1.out, e]; rfl)))
                    clear HR hq hq1 hk hk2 hcv d1 d2 HC HC1
                    go_wp2_with fail
                    go_ret2
                    exact ⟨by rw [HQ.out.1, HQ.out.2]; rfl, hb⟩
              · have h1' : (s.length : Int) ≤ (j : Int) + 1 := by omega
                have HQ : Hid (qText s = [] ∧ qLen s = 0) := q_none (qAt_none HR.out (by
                  rw [List.drop_eq_getElem_cons hlt, List.drop_of_length_le (by omega), hk2]
                  rfl))
                clear HR hq hq1 hk hk2 hcv HC
                go_wp2_with fail
                go_ret2
                exact ⟨by rw [HQ.out.1, HQ.out.2]; rfl, hb⟩
            · have hk' : ((((⟨s.toArray⟩ : ByteArray)[j]'hbk).toNat : Int) == 92) = false := beq_eq_false_iff_ne.2 hk
              by_cases hl : (((⟨s.toArray⟩ : ByteArray)[j]'hbk).toNat : Int) = 10
              · have hl' : ((((⟨s.toArray⟩ : ByteArray)[j]'hbk).toNat : Int) == 10) = true := beq_iff_eq.2 hl
                have HQ : Hid (qText s = [] ∧ qLen s = 0) := q_none (qAt_none HR.out (by
                  rw [List.drop_eq_getElem_cons hlt, show s[j] = 10 by rw [HC.out]; exact byte_eq (k := 10) (by decide) hl]
                  exact qd_line _))
                clear HR hq hq1 hk hl hcv HC
                go_wp2_with fail
                go_ret2
                exact ⟨by rw [HQ.out.1, HQ.out.2]; rfl, hb⟩
              · have hl' : ((((⟨s.toArray⟩ : ByteArray)[j]'hbk).toNat : Int) == 10) = false := beq_eq_false_iff_ne.2 hl
                have HN : Hid (qAt s (j + 1) (l ++ [((⟨s.toArray⟩ : ByteArray)[j]'hbk)])) := qAt_plain hlt hj1 HR.out (by rw [HC.out]; exact hq1) (by rw [HC.out]; exact byte_ne (k := 92) (by decide) hk) (by rw [HC.out]; exact byte_ne (k := 10) (by decide) hl)
                clear HR hq hq1 hk hl hcv HC
                have ho1 := ho.later (bal (Below.refl _ _) (.cells #[by8 ((⟨s.toArray⟩ : ByteArray)[j]'hbk)] 5))
                have hbo := bal hb (.cells #[by8 ((⟨s.toArray⟩ : ByteArray)[j]'hbk)] 5)
                go_wp2_with (at_builtin; go_must (refine wpList_append_own _ rfl _ _ 42 rfl w.heap.size 5 i0 (.int .u8 0) 1 1 Tryd.underlying42 hi hz0 hz1 hz2 rfl (by decide) _ _ _ rfl ho1 ⟨wr.heap.size, 0, none⟩ 1 1 [by8 ((⟨s.toArray⟩ : ByteArray)[j]'hbk)] rfl rfl (one_cell (World.cell?_alloc_new wr _ _ 0)) (fun u hu => by cases hu with | head => rfl | tail _ h => cases h) ?h63 ?hby ?hbs ?_))
                case h63 => unfold maxLen; omega
                case hby => omega
                case hbs => have := hb.size; simp; omega
                intro v' w2 ho4 hg4 _
                go_wp2
                go_roundw
                case rel => exact ⟨j + 1, _, l ++ [((⟨s.toArray⟩ : ByteArray)[j]'hbk)], by omega, by omega, by simp; omega, by go_num, rfl, OwnB.snoc ho4, HN, hbo.grown hg4 hbo.size (fun k hk => (World.ownsRow.lt ho1 k hk).1)⟩
                case measure => simp [intOf]; omega
        · have HQ : Hid (qText s = [] ∧ qLen s = 0) := q_none (qAt_none HR.out (by rw [List.drop_of_length_le (by omega)]; rfl))
          clear HR hcv
          go_wp2_with fail
          go_ret2
          exact ⟨by rw [HQ.out.1, HQ.out.2]; rfl, hb⟩
    · have HQ : Hid (qText s = [] ∧ qLen s = 0) := q_not (by
        rw [HH.out]
        intro e
        exact byte_ne (k := 34) (by decide) hq0 (Option.some.inj e))
      have hq0' : ((((⟨s.toArray⟩ : ByteArray)[0]'hb0).toNat : Int) == 34) = false := beq_eq_false_iff_ne.2 hq0
      have hq0n : ((((⟨s.toArray⟩ : ByteArray)[0]'hb0).toNat : Int) != 34) = true := by rw [bne, hq0']; rfl
      clear hq0 HH
      go_enter Tryd.func24, Tryd.ntmps24
      go_wp2_with fail
      go_ret2
      exact ⟨by rw [HQ.out.1, HQ.out.2]; rfl, Below.refl _ _⟩
end Go.Proofs.YtmhpmlfpflkgbaaDoor
