/- readValue: for every text. -/
import Derived.Test.YtcbjhfnlhpallaaGreatDoorPrint
namespace Go.Proofs.YtcbjhfnlhpallaaGreatDoor
open Go.RowKit

theorem info5 : (Tryz.prog.info? 5).map (fun i => (i.zero, i.size, i.bytes)) = some (some (.int .u8 0), 1, 1) := by kernel_rfl
theorem info_parts5 : ∃ i, Tryz.prog.info? 5 = some i ∧ i.zero = some (.int .u8 0) ∧ i.size = 1 ∧ i.bytes = 1 := by
  have h := info5
  cases hi : Tryz.prog.info? 5 with
  | none => rw [hi] at h; cases h
  | some i =>
    rw [hi] at h
    simp only [Option.map_some, Option.some.injEq, Prod.mk.injEq] at h
    exact ⟨i, rfl, h.1, h.2.1, h.2.2⟩
abbrev by8 (c : UInt8) : Value := .int .u8 (c.toNat : Int)
def OwnB (w : World) (base : Nat) (v : Value) (l : Str) : Prop := w.ownsRow base 5 1 v l.length (l.map by8)
theorem OwnB.later {w w' : World} {base : Nat} {v : Value} {l : Str} (h : OwnB w base v l) (hb : Below w.heap.size w w') : OwnB w' base v l := by
  refine ⟨h.1, ?_⟩
  rcases h.2 with h0 | ⟨g, cap, cur, hv, hg0, hg, hn, hm, hs, ht⟩
  · exact Or.inl h0
  · have hlt : g < w.heap.size := by
      by_cases hlt : g < w.heap.size
      · exact hlt
      · rw [Array.getElem?_eq_none (by omega)] at hg; cases hg
    exact Or.inr ⟨g, cap, cur, hv, hg0, (hb.block g hlt).trans hg, hn, hm, hs, ht⟩
theorem OwnB.snoc {w : World} {base : Nat} {v : Value} {l : Str} {c : UInt8} (h : w.ownsRow base 5 1 v (l.length + 1) (l.map by8 ++ [by8 c])) : OwnB w base v (l ++ [c]) := by
  unfold OwnB
  rw [List.map_append, List.length_append]
  exact h
theorem OwnB.string {w : World} {base : Nat} {v : Value} {l : Str} (h : OwnB w base v l) : ∀ W, Below w.heap.size w W → (convert 60 9 v).run Tryz.prog W = .ok (tx l) W := by
  intro W hW
  rcases (h.later hW).2 with ⟨rfl, h0⟩ | ⟨g, cap, cur, rfl, hb, hg, hn, _, hs, ht⟩
  · obtain rfl : l = [] := List.length_eq_zero_iff.1 h0
    exact run_convert_bytes_nil W 60 5 Tryz.underlying60 Tryz.underlying5 0 0 9 Tryz.underlying9
  · refine run_convert_bytes_back W 60 9 5 ⟨g, 0, none⟩ cap l Tryz.underlying60 Tryz.underlying5 Tryz.underlying9 (fun j hj => ?_)
    rw [Addr.add_lit, cell_of_row _ _ _ _ _ _ hg, Nat.zero_add]
    have e : (cur.toList.take (l.length * 1))[j]? = (l.map by8)[j]? := by rw [ht]
    rw [List.getElem?_take_of_lt (by omega)] at e
    rw [← Array.getElem?_toList, e]
    simp [List.getElem?_eq_getElem hj]
theorem ex_tail (s : Str) (k : Nat) : (⟨s.toArray⟩ : ByteArray).extract k s.length = ⟨(s.drop k).toArray⟩ := by
  rw [Lib.extract_eq]
  congr 2
  exact List.take_of_length_le (by simp)
theorem index_at (s : Str) (k : Nat) (h : k < (⟨s.toArray⟩ : ByteArray).size) (W : World) : (Instr.index 9 (tx s) (.int .i64 (k : Int))).run Tryz.prog W = .ok (by8 ((⟨s.toArray⟩ : ByteArray)[k]'h)) W := by
  have hk : k < s.length := by rw [ba_size] at h; exact h
  have u9 := Tryz.underlying9
  go_simp
theorem rd_quote {s : Str} {j : Nat} (hj : j < s.length) (h : s[j] = 34) : rdVal (s.drop j) = ([], s.drop (j + 1)) := by
  rw [List.drop_eq_getElem_cons hj, h, rdVal.eq_def]
  simp
theorem rd_plain {s : Str} {j : Nat} (hj : j < s.length) (h : s[j] ≠ 34) (h2 : s[j] ≠ 92) : rdVal (s.drop j) = (s[j] :: (rdVal (s.drop (j + 1))).1, (rdVal (s.drop (j + 1))).2) := by
  rw [List.drop_eq_getElem_cons hj, rdVal.eq_def]
  simp [h, h2]
theorem rd_back {s : Str} {j : Nat} (hj : j < s.length) (h : s[j] = 92) (h1 : j + 1 < s.length) : rdVal (s.drop j) = (s[j + 1] :: (rdVal (s.drop (j + 2))).1, (rdVal (s.drop (j + 2))).2) := by
  rw [List.drop_eq_getElem_cons hj, h, List.drop_eq_getElem_cons h1, rdVal.eq_def]
  simp
theorem rd_last {s : Str} {j : Nat} (hj : j < s.length) (h : s[j] = 92) (h1 : ¬ j + 1 < s.length) : rdVal (s.drop j) = (s[j] :: (rdVal (s.drop (j + 1))).1, (rdVal (s.drop (j + 1))).2) := by
  have e : s.drop (j + 1) = [] := List.drop_eq_nil_of_le (by omega)
  rw [List.drop_eq_getElem_cons hj, h, e, rdVal.eq_def]
  simp [rdVal]
theorem byte_eq {c : UInt8} {k : Nat} (hk : k < 256) (h : (c.toNat : Int) = k) : c = UInt8.ofNat k := by
  apply UInt8.toNat_inj.1
  rw [UInt8.toNat_ofNat_of_lt' (by simpa using hk)]
  omega
theorem byte_ne {c : UInt8} {k : Nat} (hk : k < 256) (h : ¬ (c.toNat : Int) = k) : c ≠ UInt8.ofNat k := by
  intro e
  rw [e, UInt8.toNat_ofNat_of_lt' (by simpa using hk)] at h
  exact h rfl

set_option maxHeartbeats 2000000 in
theorem readValue_any (s : Str) (w : World) (hs : s.length ≤ 1000000) : Calls Tryz.prog 102 #[tx s] w fun e w' => e = .returned (.tuple #[tx (rdVal s).1, tx (rdVal s).2]) ∧ Below w.heap.size w w' := by
  obtain ⟨i0, hi, hz0, hz1, hz2⟩ := info_parts5
  have hex := ex_tail s
  go_enter Tryz.func102, Tryz.ntmps102
  go_wp2
  go_loopw [5, 4] (fun i u wr => ∃ (j : Nat) (v : Value) (l : Str), j ≤ s.length ∧ l.length ≤ j ∧ i = .int .i64 j ∧ v = u ∧ OwnB wr w.heap.size v l ∧ Hid (rdVal s = (l ++ (rdVal (s.drop j)).1, (rdVal (s.drop j)).2)) ∧ Below w.heap.size w wr) (fun i _ _ => s.length - (intOf i).toNat)
  case atStart => exact ⟨0, _, [], by omega, by simp, rfl, rfl, World.ownsRow_made w #[] 0 (Nat.le_refl _) (Nat.zero_le _) (by simp), by show _ = _; simp, bal (Below.refl _ _) _⟩
  case round =>
    obtain ⟨j, v, l, hj, hlj, rfl, rfl, ho, HR, hb⟩ := hrel
    have hcv := ho.string
    by_cases hlt : j < s.length
    · have hbk := ba_lt hlt
      by_cases hq : (((⟨s.toArray⟩ : ByteArray)[j]'hbk).toNat : Int) = 34
      · have HQ : Hid (rdVal s = (l, s.drop (j + 1))) := by
          show _ = _
          rw [HR.out, rd_quote hlt (byte_eq (k := 34) (by decide) hq)]
          simp
        clear HR
        have hq' : ((((⟨s.toArray⟩ : ByteArray)[j]'hbk).toNat : Int) == 34) = true := beq_iff_eq.2 hq
        clear hq
        have hcd : ∀ k, (convert 60 9 v).run Tryz.prog (wr.drewN k) = .ok (tx l) (wr.drewN k) := fun k => hcv _ (below_drewN (Below.refl _ _) k)
        clear hcv
        go_wp2
        go_quiet (fail)
        go_wp2
        go_ret2
        exact ⟨by rw [HQ.out]; rfl, below_drewN hb _⟩
      · have hq1 := byte_ne (k := 34) (by decide) hq
        have hq' : ((((⟨s.toArray⟩ : ByteArray)[j]'hbk).toNat : Int) == 34) = false := beq_eq_false_iff_ne.2 hq
        by_cases hk : (((⟨s.toArray⟩ : ByteArray)[j]'hbk).toNat : Int) = 92
        · have hk' : ((((⟨s.toArray⟩ : ByteArray)[j]'hbk).toNat : Int) == 92) = true := beq_iff_eq.2 hk
          by_cases h1 : j + 1 < s.length
          · have hbk1 := ba_lt h1
            have h1' : (j : Int) + 1 < s.length := by omega
            have hix : ∀ W, (Instr.index 9 (tx s) (.int .i64 ((j : Int) + 1))).run Tryz.prog W = .ok (by8 ((⟨s.toArray⟩ : ByteArray)[j + 1]'hbk1)) W := fun W => index_at s (j + 1) hbk1 W
            have HN : Hid (rdVal s = ((l ++ [(⟨s.toArray⟩ : ByteArray)[j + 1]'hbk1]) ++ (rdVal (s.drop (j + 2))).1, (rdVal (s.drop (j + 2))).2)) := by
              show _ = _
              rw [HR.out, rd_back hlt (byte_eq (k := 92) (by decide) hk) h1]
              simp
              rfl
            clear HR hq hq1 hk hcv
            have ho1 := ho.later (bal (Below.refl _ _) (.cells #[by8 ((⟨s.toArray⟩ : ByteArray)[j + 1]'hbk1)] 5))
            have hbo := bal hb (.cells #[by8 ((⟨s.toArray⟩ : ByteArray)[j + 1]'hbk1)] 5)
            go_wp2_with (at_builtin; go_must (refine wpList_append_own _ rfl _ _ 60 rfl w.heap.size 5 i0 (.int .u8 0) 1 1 Tryz.underlying60 hi hz0 hz1 hz2 rfl (by decide) _ _ _ rfl ho1 ⟨wr.heap.size, 0, none⟩ 1 1 [by8 ((⟨s.toArray⟩ : ByteArray)[j + 1]'hbk1)] rfl rfl (one_cell (World.cell?_alloc_new wr _ _ 0)) (fun u hu => by cases hu with | head => rfl | tail _ h => cases h) ?h63 ?hby ?hbs ?_))
            case h63 => unfold maxLen; omega
            case hby => omega
            case hbs => have := hb.size; simp; omega
            intro v' w2 ho4 hg4 _
            go_wp2
            go_roundw
            case rel => exact ⟨j + 2, _, l ++ [(⟨s.toArray⟩ : ByteArray)[j + 1]'hbk1], by omega, by simp; omega, by go_num, rfl, OwnB.snoc ho4, HN, hbo.grown hg4 hbo.size (fun k hk => (World.ownsRow.lt ho1 k hk).1)⟩
            case measure => simp [intOf]; omega
          · have h1' : ¬ (j : Int) + 1 < s.length := by omega
            have HN : Hid (rdVal s = ((l ++ [(⟨s.toArray⟩ : ByteArray)[j]'hbk]) ++ (rdVal (s.drop (j + 1))).1, (rdVal (s.drop (j + 1))).2)) := by
              show _ = _
              rw [HR.out, rd_last hlt (byte_eq (k := 92) (by decide) hk) h1]
              simp
              rfl
            clear HR hq hq1 hk hcv
            have ho1 := ho.later (bal (Below.refl _ _) (.cells #[by8 ((⟨s.toArray⟩ : ByteArray)[j]'hbk)] 5))
            have hbo := bal hb (.cells #[by8 ((⟨s.toArray⟩ : ByteArray)[j]'hbk)] 5)
            go_wp2_with (at_builtin; go_must (refine wpList_append_own _ rfl _ _ 60 rfl w.heap.size 5 i0 (.int .u8 0) 1 1 Tryz.underlying60 hi hz0 hz1 hz2 rfl (by decide) _ _ _ rfl ho1 ⟨wr.heap.size, 0, none⟩ 1 1 [by8 ((⟨s.toArray⟩ : ByteArray)[j]'hbk)] rfl rfl (one_cell (World.cell?_alloc_new wr _ _ 0)) (fun u hu => by cases hu with | head => rfl | tail _ h => cases h) ?h63 ?hby ?hbs ?_))
            case h63 => unfold maxLen; omega
            case hby => omega
            case hbs => have := hb.size; simp; omega
            intro v' w2 ho4 hg4 _
            go_wp2
            go_roundw
            case rel => exact ⟨j + 1, _, l ++ [(⟨s.toArray⟩ : ByteArray)[j]'hbk], by omega, by simp; omega, by go_num, rfl, OwnB.snoc ho4, HN, hbo.grown hg4 hbo.size (fun k hk => (World.ownsRow.lt ho1 k hk).1)⟩
            case measure => simp [intOf]; omega
        · have hk' : ((((⟨s.toArray⟩ : ByteArray)[j]'hbk).toNat : Int) == 92) = false := beq_eq_false_iff_ne.2 hk
          have HN : Hid (rdVal s = ((l ++ [(⟨s.toArray⟩ : ByteArray)[j]'hbk]) ++ (rdVal (s.drop (j + 1))).1, (rdVal (s.drop (j + 1))).2)) := by
              show _ = _
              rw [HR.out, rd_plain hlt hq1 (byte_ne (k := 92) (by decide) hk)]
              simp
              rfl
          clear HR hq hq1 hk hcv
          · skip
            have ho1 := ho.later (bal (Below.refl _ _) (.cells #[by8 ((⟨s.toArray⟩ : ByteArray)[j]'hbk)] 5))
            have hbo := bal hb (.cells #[by8 ((⟨s.toArray⟩ : ByteArray)[j]'hbk)] 5)
            go_wp2_with (at_builtin; go_must (refine wpList_append_own _ rfl _ _ 60 rfl w.heap.size 5 i0 (.int .u8 0) 1 1 Tryz.underlying60 hi hz0 hz1 hz2 rfl (by decide) _ _ _ rfl ho1 ⟨wr.heap.size, 0, none⟩ 1 1 [by8 ((⟨s.toArray⟩ : ByteArray)[j]'hbk)] rfl rfl (one_cell (World.cell?_alloc_new wr _ _ 0)) (fun u hu => by cases hu with | head => rfl | tail _ h => cases h) ?h63 ?hby ?hbs ?_))
            case h63 => unfold maxLen; omega
            case hby => omega
            case hbs => have := hb.size; simp; omega
            intro v' w2 ho4 hg4 _
            go_wp2
            go_roundw
            case rel => exact ⟨j + 1, _, l ++ [(⟨s.toArray⟩ : ByteArray)[j]'hbk], by omega, by simp; omega, by go_num, rfl, OwnB.snoc ho4, HN, hbo.grown hg4 hbo.size (fun k hk => (World.ownsRow.lt ho1 k hk).1)⟩
            case measure => simp [intOf]; omega
    · have HQ : Hid (rdVal s = (l, [])) := by
        show _ = _
        rw [HR.out, List.drop_eq_nil_of_le (by omega)]
        simp [rdVal]
      clear HR
      have hc0 := hcv wr (Below.refl _ _)
      clear hcv
      go_wp2
      go_ret2
      exact ⟨by rw [HQ.out]; rfl, hb⟩
end Go.Proofs.YtcbjhfnlhpallaaGreatDoor
