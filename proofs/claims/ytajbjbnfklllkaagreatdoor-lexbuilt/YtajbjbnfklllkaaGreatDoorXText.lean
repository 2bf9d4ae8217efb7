/- text, amount, first: each for every argument. -/
import Derived.Test.YtajbjbnfklllkaaGreatDoorXRead
namespace Go.Proofs.YtajbjbnfklllkaaGreatDoor
open Go.RowKit

theorem tx_some {s l : Str} {j : Nat} (h : qd (s.drop 1) = some (l, j)) (hl : l.length ≤ 30) : (tkTx s).getD (tk0, 0) = (tText l, j + 1) := by
  unfold tkTx
  rw [← List.drop_one, h]
  simp [hl]
theorem tx_none {s : Str} (h : qd (s.drop 1) = none) : (tkTx s).getD (tk0, 0) = (tk0, 0) := by
  unfold tkTx
  rw [← List.drop_one, h]
  rfl
theorem tx_long {s l : Str} {j : Nat} (h : qAt s j l) (hl : 30 < l.length) : (tkTx s).getD (tk0, 0) = (tk0, 0) := by
  unfold tkTx
  unfold qAt at h
  rw [← List.drop_one, h]
  cases qd (s.drop j) with
  | none => rfl
  | some x =>
    simp only [Option.map_some]
    rw [if_neg (by simp; omega)]
    rfl
theorem OwnB.form {w : World} {base : Nat} {v : Value} {l : Str} (h : OwnB w base v l) : ∃ ao cap, v = .slice ao l.length cap := by
  rcases h.2 with ⟨rfl, h0⟩ | ⟨g, cap, cur, rfl, hb, hg, hn, _, hs, ht⟩
  · rw [h0]; exact ⟨none, 0, rfl⟩
  · exact ⟨_, cap, rfl⟩
set_option maxHeartbeats 4000000 in
theorem text_any (s : Str) (w : World) (hs : s.length ≤ 1000) (hpos : 0 < s.length) : Calls Tryz.prog 30 #[tx s] w fun e w' => e = .returned (rt (tkTx s)) ∧ Below w.heap.size w w' := by
  obtain ⟨i0, hi, hz0, hz1, hz2⟩ := info_parts5
  have hb0 : Below w.heap.size w (w.alloc (.cells #[.int .i64 0, .int .i64 0, .string ⟨#[]⟩, .bool false, .int .i64 0, .int .i64 0] 36)) := bal (Below.refl _ _) _
  have hx := (BoxT.new0 w).later (bal (Below.refl _ _) (.cells #[] 5))
  have hmade : OwnB ((w.alloc (.cells #[.int .i64 0, .int .i64 0, .string ⟨#[]⟩, .bool false, .int .i64 0, .int .i64 0] 36)).alloc (.cells #[] 5)) (w.heap.size + 1) (.slice (some ⟨w.heap.size + 1, 0, none⟩) 0 0) [] := by
    have := World.ownsRow_made (w.alloc (.cells #[.int .i64 0, .int .i64 0, .string ⟨#[]⟩, .bool false, .int .i64 0, .int .i64 0] 36)) (e := 5) (size := 1) (base := w.heap.size + 1) #[] 0 (by simp) (Nat.zero_le _) (by simp)
    have e : (w.alloc (.cells #[.int .i64 0, .int .i64 0, .string ⟨#[]⟩, .bool false, .int .i64 0, .int .i64 0] 36)).heap.size = w.heap.size + 1 := by simp
    rw [e] at this
    exact this
  have hbm := bal hb0 (.cells #[] 5)
  go_enter Tryz.func30, Tryz.ntmps30
  go_wp2_with fail
  go_loopw [5, 4] (fun i u wr => ∃ (j n cap : Nat) (ao : Option Addr) (l : Str), j ≤ s.length ∧ 1 ≤ j ∧ n ≤ 31 ∧ i = .int .i64 j ∧ u = .slice ao n cap ∧ Hid (l.length = n) ∧ OwnB wr (w.heap.size + 1) (.slice ao n cap) l ∧ Hid (qAt s j l) ∧ BoxT wr w.heap.size tk0 ∧ Below w.heap.size w wr) (fun i _ _ => s.length - (intOf i).toNat)
  case atStart => exact ⟨1, 0, 0, _, [], by omega, by omega, by omega, rfl, rfl, rfl, hmade, qAt_start s, hx, hbm⟩
  case round =>
    obtain ⟨j, n, cap, ao, l, hj, hj1, hn, rfl, rfl, HLN, ho, HR, hbx, hb⟩ := hrel
    have hcv := ho.string
    obtain ⟨c0, c1, c2, c3, c4, c5, f0, f1, f2, f3, f4, f5⟩ := hbx
    have hbx : Hid (BoxT wr w.heap.size tk0) := ⟨c0, c1, c2, c3, c4, c5, f0, f1, f2, f3, f4, f5⟩
    by_cases hlt : j < s.length
    · have hbk := ba_lt hlt
      have HC : Hid (s[j] = ((⟨s.toArray⟩ : ByteArray)[j]'hbk)) := rfl
      have hwr : IntKind.i64.wrap ((j : Int) + 1) = (j : Int) + 1 := by rw [IntKind.wrap_i64]; omega
      by_cases hl : ((((⟨s.toArray⟩ : ByteArray)[j]'hbk).toNat : Int)) = 10
      · have hl' : (((((⟨s.toArray⟩ : ByteArray)[j]'hbk).toNat : Int)) == 10) = true := beq_iff_eq.2 hl
        have hln : (((((⟨s.toArray⟩ : ByteArray)[j]'hbk).toNat : Int)) != 10) = false := by rw [bne, hl']; rfl
        have HQ : Hid ((tkTx s).getD (tk0, 0) = (tk0, 0)) := tx_none (qAt_none HR.out (by
          rw [List.drop_eq_getElem_cons hlt, show s[j] = 10 by rw [HC.out]; exact byte_eq (k := 10) (by decide) hl]
          exact qd_line _))
        clear HR hl HC hcv
        go_wp2
        exact bodyPost_ret (v := .tuple #[.agg #[.int .i64 0, .int .i64 0, .string ⟨#[]⟩, .bool false, .int .i64 0, .int .i64 0], .int .i64 0]) (by simp [results, Tryz.results30, go_sem, c0, c1, c2, c3, c4, c5]) rfl ⟨by rw [rt_of HQ.out]; rfl, below6 hb (Nat.le_refl _) _ _ _ _ _ _⟩
      · have hl' : (((((⟨s.toArray⟩ : ByteArray)[j]'hbk).toNat : Int)) == 10) = false := beq_eq_false_iff_ne.2 hl
        have hln : (((((⟨s.toArray⟩ : ByteArray)[j]'hbk).toNat : Int)) != 10) = true := by rw [bne, hl']; rfl
        by_cases hn30 : n ≤ 30
        · have hn30' : (n : Int) ≤ 30 := by omega
          by_cases hq : ((((⟨s.toArray⟩ : ByteArray)[j]'hbk).toNat : Int)) = 34
          · have HQ : Hid ((tkTx s).getD (tk0, 0) = (tText l, j + 1)) := tx_some (qAt_end hlt hj1 HR.out (by rw [HC.out]; exact byte_eq (k := 34) (by decide) hq)) (by rw [HLN.out]; exact hn30)
            have hq' : (((((⟨s.toArray⟩ : ByteArray)[j]'hbk).toNat : Int)) == 34) = true := beq_iff_eq.2 hq
            have hc0 := hcv wr (Below.refl _ _)
            clear HR HC hl hq hcv
            go_wp2
            exact bodyPost_ret (v := .tuple #[.agg #[.int .i64 4, .int .i64 0, tx l, .bool false, .int .i64 0, .int .i64 0], .int .i64 ((j + 1 : Nat) : Int)]) (by simp [results, Tryz.results30, go_sem, c0, c1, c2, c3, c4, c5]) rfl ⟨by rw [rt_of HQ.out]; rfl, below6 hb (Nat.le_refl _) _ _ _ _ _ _⟩
          · have hq' : (((((⟨s.toArray⟩ : ByteArray)[j]'hbk).toNat : Int)) == 34) = false := beq_eq_false_iff_ne.2 hq
            have hq1 := byte_ne (k := 34) (by decide) hq
            by_cases hk : ((((⟨s.toArray⟩ : ByteArray)[j]'hbk).toNat : Int)) = 92
            · have hk' : (((((⟨s.toArray⟩ : ByteArray)[j]'hbk).toNat : Int)) == 92) = true := beq_iff_eq.2 hk
              have hk2 : s[j] = 92 := by rw [HC.out]; exact byte_eq (k := 92) (by decide) hk
              by_cases h1 : j + 1 < s.length
              · have hbk1 := ba_lt h1
                have h1' : ((j : Int) + 1 == (s.length : Int)) = false := by rw [beq_eq_false_iff_ne]; omega
                have HC1 : Hid (s[j + 1] = ((⟨s.toArray⟩ : ByteArray)[j + 1]'hbk1)) := rfl
                have hix : ∀ W, (Instr.index 9 (tx s) (.int .i64 ((j : Int) + 1))).run Tryz.prog W = .ok (by8 ((⟨s.toArray⟩ : ByteArray)[j + 1]'hbk1)) W := fun W => index_at s (j + 1) hbk1 W
                by_cases d1 : ((((⟨s.toArray⟩ : ByteArray)[j + 1]'hbk1).toNat : Int)) = 34
                · have HN : Hid (qAt s (j + 2) (l ++ [(⟨s.toArray⟩ : ByteArray)[j + 1]'hbk1])) := qAt_back h1 hj1 HR.out hk2 (Or.inl (by rw [HC1.out]; exact byte_eq (k := 34) (by decide) d1))
                  have d1' : (((((⟨s.toArray⟩ : ByteArray)[j + 1]'hbk1).toNat : Int)) == 34) = true := beq_iff_eq.2 d1
                  have d1n : (((((⟨s.toArray⟩ : ByteArray)[j + 1]'hbk1).toNat : Int)) != 34) = false := by rw [bne, d1']; rfl
                  clear HR hl hq hq1 hk hk2 hcv d1 HC HC1
                  have ho1 := ho.later (bal (Below.refl _ _) (.cells #[by8 ((⟨s.toArray⟩ : ByteArray)[j + 1]'hbk1)] 5))
                  have hbo := bal hb (.cells #[by8 ((⟨s.toArray⟩ : ByteArray)[j + 1]'hbk1)] 5)
                  have hbx1 : Hid (BoxT (wr.alloc (.cells #[by8 ((⟨s.toArray⟩ : ByteArray)[j + 1]'hbk1)] 5)) w.heap.size tk0) := hbx.out.later (bal (Below.refl _ _) _)
                  clear c0 c1 c2 c3 c4 c5 f0 f1 f2 f3 f4 f5
                  go_wp2_with (at_builtin; go_must (refine wpList_append_own _ rfl _ _ 44 rfl (w.heap.size + 1) 5 i0 (.int .u8 0) 1 1 Tryz.underlying44 hi hz0 hz1 hz2 rfl (by decide) _ _ _ rfl ho1 ⟨wr.heap.size, 0, none⟩ 1 1 [by8 ((⟨s.toArray⟩ : ByteArray)[j + 1]'hbk1)] rfl rfl (one_cell (World.cell?_alloc_new wr _ _ 0)) (fun u hu => by cases hu with | head => rfl | tail _ h => cases h) ?h63 ?hby ?hbs ?_))
                  case h63 => have := HLN.out; unfold maxLen; omega
                  case hby => have := HLN.out; omega
                  case hbs => have := hbx.out.lt; simp; omega
                  intro v' w2 ho4 hg4 _
                  have ho5 := OwnB.snoc ho4
                  obtain ⟨ao', cap', rfl⟩ := ho5.form
                  have HLN' : Hid ((l ++ [(⟨s.toArray⟩ : ByteArray)[j + 1]'hbk1]).length = n + 1) := by show _ = _; rw [List.length_append, HLN.out]; rfl
                  rw [HLN'.out] at ho5 ⊢
                  have hbx2 := hbx1.out.kept hg4 (fun e => by have := (World.ownsRow.lt ho1 _ e.symm).1; omega)
                  have hbo2 := hbo.grown hg4 hbo.size (fun k hk => by have := (World.ownsRow.lt ho1 k hk).1; omega)
                  clear ho4
                  go_wp2
                  go_roundw
                  case rel => exact ⟨j + 2, n + 1, cap', ao', l ++ [(⟨s.toArray⟩ : ByteArray)[j + 1]'hbk1], by omega, by omega, by omega, by go_num, rfl, HLN', ho5, HN, hbx2, hbo2⟩
                  case measure => simp [intOf]; omega
                · have d1' : (((((⟨s.toArray⟩ : ByteArray)[j + 1]'hbk1).toNat : Int)) == 34) = false := beq_eq_false_iff_ne.2 d1
                  have d1n : (((((⟨s.toArray⟩ : ByteArray)[j + 1]'hbk1).toNat : Int)) != 34) = true := by rw [bne, d1']; rfl
                  by_cases d2 : ((((⟨s.toArray⟩ : ByteArray)[j + 1]'hbk1).toNat : Int)) = 92
                  · have HN : Hid (qAt s (j + 2) (l ++ [(⟨s.toArray⟩ : ByteArray)[j + 1]'hbk1])) := qAt_back h1 hj1 HR.out hk2 (Or.inr (by rw [HC1.out]; exact byte_eq (k := 92) (by decide) d2))
                    have d2' : (((((⟨s.toArray⟩ : ByteArray)[j + 1]'hbk1).toNat : Int)) == 92) = true := beq_iff_eq.2 d2
                    have d2n : (((((⟨s.toArray⟩ : ByteArray)[j + 1]'hbk1).toNat : Int)) != 92) = false := by rw [bne, d2']; rfl
                    clear HR hl hq hq1 hk hk2 hcv d1 d2 HC HC1
                    have ho1 := ho.later (bal (Below.refl _ _) (.cells #[by8 ((⟨s.toArray⟩ : ByteArray)[j + 1]'hbk1)] 5))
                    have hbo := bal hb (.cells #[by8 ((⟨s.toArray⟩ : ByteArray)[j + 1]'hbk1)] 5)
                    have hbx1 : Hid (BoxT (wr.alloc (.cells #[by8 ((⟨s.toArray⟩ : ByteArray)[j + 1]'hbk1)] 5)) w.heap.size tk0) := hbx.out.later (bal (Below.refl _ _) _)
                    clear c0 c1 c2 c3 c4 c5 f0 f1 f2 f3 f4 f5
                    go_wp2_with (at_builtin; go_must (refine wpList_append_own _ rfl _ _ 44 rfl (w.heap.size + 1) 5 i0 (.int .u8 0) 1 1 Tryz.underlying44 hi hz0 hz1 hz2 rfl (by decide) _ _ _ rfl ho1 ⟨wr.heap.size, 0, none⟩ 1 1 [by8 ((⟨s.toArray⟩ : ByteArray)[j + 1]'hbk1)] rfl rfl (one_cell (World.cell?_alloc_new wr _ _ 0)) (fun u hu => by cases hu with | head => rfl | tail _ h => cases h) ?h63 ?hby ?hbs ?_))
                    case h63 => have := HLN.out; unfold maxLen; omega
                    case hby => have := HLN.out; omega
                    case hbs => have := hbx.out.lt; simp; omega
                    intro v' w2 ho4 hg4 _
                    have ho5 := OwnB.snoc ho4
                    obtain ⟨ao', cap', rfl⟩ := ho5.form
                    have HLN' : Hid ((l ++ [(⟨s.toArray⟩ : ByteArray)[j + 1]'hbk1]).length = n + 1) := by show _ = _; rw [List.length_append, HLN.out]; rfl
                    rw [HLN'.out] at ho5 ⊢
                    have hbx2 := hbx1.out.kept hg4 (fun e => by have := (World.ownsRow.lt ho1 _ e.symm).1; omega)
                    have hbo2 := hbo.grown hg4 hbo.size (fun k hk => by have := (World.ownsRow.lt ho1 k hk).1; omega)
                    clear ho4
                    go_wp2
                    go_roundw
                    case rel => exact ⟨j + 2, n + 1, cap', ao', l ++ [(⟨s.toArray⟩ : ByteArray)[j + 1]'hbk1], by omega, by omega, by omega, by go_num, rfl, HLN', ho5, HN, hbx2, hbo2⟩
                    case measure => simp [intOf]; omega
                  · have d2' : (((((⟨s.toArray⟩ : ByteArray)[j + 1]'hbk1).toNat : Int)) == 92) = false := beq_eq_false_iff_ne.2 d2
                    have d2n : (((((⟨s.toArray⟩ : ByteArray)[j + 1]'hbk1).toNat : Int)) != 92) = true := by rw [bne, d2']; rfl
                    have HQ : Hid ((tkTx s).getD (tk0, 0) = (tk0, 0)) := tx_none (qAt_none HR.out (by
                      rw [List.drop_eq_getElem_cons hlt, List.drop_eq_getElem_cons h1, hk2]
                      refine qd_back_no _ ?_
                      rintro (e | e)
                      · exact byte_ne (k := 34) (by decide) d1 (by rw [← HC1.out, e]; rfl)
                      · exact byte_ne (k := 92) (by decide) d2 (by rw [← HC1.out, e]; rfl)))
                    clear HR hl hq hq1 hk hk2 hcv d1 d2 HC HC1
                    go_wp2
                    exact bodyPost_ret (v := .tuple #[.agg #[.int .i64 0, .int .i64 0, .string ⟨#[]⟩, .bool false, .int .i64 0, .int .i64 0], .int .i64 0]) (by simp [results, Tryz.results30, go_sem, c0, c1, c2, c3, c4, c5]) rfl ⟨by rw [rt_of HQ.out]; rfl, below6 hb (Nat.le_refl _) _ _ _ _ _ _⟩
              · have h1' : ((j : Int) + 1 == (s.length : Int)) = true := by rw [beq_iff_eq]; omega
                have HQ : Hid ((tkTx s).getD (tk0, 0) = (tk0, 0)) := tx_none (qAt_none HR.out (by
                  rw [List.drop_eq_getElem_cons hlt, List.drop_of_length_le (by omega), hk2]
                  rfl))
                clear HR hl hq hq1 hk hk2 hcv HC
                go_wp2
                exact bodyPost_ret (v := .tuple #[.agg #[.int .i64 0, .int .i64 0, .string ⟨#[]⟩, .bool false, .int .i64 0, .int .i64 0], .int .i64 0]) (by simp [results, Tryz.results30, go_sem, c0, c1, c2, c3, c4, c5]) rfl ⟨by rw [rt_of HQ.out]; rfl, below6 hb (Nat.le_refl _) _ _ _ _ _ _⟩
            · have hk' : (((((⟨s.toArray⟩ : ByteArray)[j]'hbk).toNat : Int)) == 92) = false := beq_eq_false_iff_ne.2 hk
              have HN : Hid (qAt s (j + 1) (l ++ [(⟨s.toArray⟩ : ByteArray)[j]'hbk])) := qAt_plain hlt hj1 HR.out (by rw [HC.out]; exact hq1) (by rw [HC.out]; exact byte_ne (k := 92) (by decide) hk) (by rw [HC.out]; exact byte_ne (k := 10) (by decide) hl)
              clear HR hl hq hq1 hk hcv HC
              have ho1 := ho.later (bal (Below.refl _ _) (.cells #[by8 ((⟨s.toArray⟩ : ByteArray)[j]'hbk)] 5))
              have hbo := bal hb (.cells #[by8 ((⟨s.toArray⟩ : ByteArray)[j]'hbk)] 5)
              have hbx1 : Hid (BoxT (wr.alloc (.cells #[by8 ((⟨s.toArray⟩ : ByteArray)[j]'hbk)] 5)) w.heap.size tk0) := hbx.out.later (bal (Below.refl _ _) _)
              clear c0 c1 c2 c3 c4 c5 f0 f1 f2 f3 f4 f5
              go_wp2_with (at_builtin; go_must (refine wpList_append_own _ rfl _ _ 44 rfl (w.heap.size + 1) 5 i0 (.int .u8 0) 1 1 Tryz.underlying44 hi hz0 hz1 hz2 rfl (by decide) _ _ _ rfl ho1 ⟨wr.heap.size, 0, none⟩ 1 1 [by8 ((⟨s.toArray⟩ : ByteArray)[j]'hbk)] rfl rfl (one_cell (World.cell?_alloc_new wr _ _ 0)) (fun u hu => by cases hu with | head => rfl | tail _ h => cases h) ?h63 ?hby ?hbs ?_))
              case h63 => have := HLN.out; unfold maxLen; omega
              case hby => have := HLN.out; omega
              case hbs => have := hbx.out.lt; simp; omega
              intro v' w2 ho4 hg4 _
              have ho5 := OwnB.snoc ho4
              obtain ⟨ao', cap', rfl⟩ := ho5.form
              have HLN' : Hid ((l ++ [(⟨s.toArray⟩ : ByteArray)[j]'hbk]).length = n + 1) := by show _ = _; rw [List.length_append, HLN.out]; rfl
              rw [HLN'.out] at ho5 ⊢
              have hbx2 := hbx1.out.kept hg4 (fun e => by have := (World.ownsRow.lt ho1 _ e.symm).1; omega)
              have hbo2 := hbo.grown hg4 hbo.size (fun k hk => by have := (World.ownsRow.lt ho1 k hk).1; omega)
              clear ho4
              go_wp2
              go_roundw
              case rel => exact ⟨j + 1, n + 1, cap', ao', l ++ [(⟨s.toArray⟩ : ByteArray)[j]'hbk], by omega, by omega, by omega, by go_num, rfl, HLN', ho5, HN, hbx2, hbo2⟩
              case measure => simp [intOf]; omega
        · have hn30' : ¬ (n : Int) ≤ 30 := by omega
          have HQ : Hid ((tkTx s).getD (tk0, 0) = (tk0, 0)) := tx_long HR.out (by rw [HLN.out]; omega)
          clear HR hl HC hcv
          go_wp2
          exact bodyPost_ret (v := .tuple #[.agg #[.int .i64 0, .int .i64 0, .string ⟨#[]⟩, .bool false, .int .i64 0, .int .i64 0], .int .i64 0]) (by simp [results, Tryz.results30, go_sem, c0, c1, c2, c3, c4, c5]) rfl ⟨by rw [rt_of HQ.out]; rfl, below6 hb (Nat.le_refl _) _ _ _ _ _ _⟩
    · have HQ : Hid ((tkTx s).getD (tk0, 0) = (tk0, 0)) := tx_none (qAt_none HR.out (by rw [List.drop_of_length_le (by omega)]; rfl))
      clear HR hcv
      go_wp2
      exact bodyPost_ret (v := .tuple #[.agg #[.int .i64 0, .int .i64 0, .string ⟨#[]⟩, .bool false, .int .i64 0, .int .i64 0], .int .i64 0]) (by simp [results, Tryz.results30, go_sem, c0, c1, c2, c3, c4, c5]) rfl ⟨by rw [rt_of HQ.out]; rfl, below6 hb (Nat.le_refl _) _ _ _ _ _ _⟩
end Go.Proofs.YtajbjbnfklllkaaGreatDoor
