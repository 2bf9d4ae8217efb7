/- words: for every line. -/
import Derived.Test.YtcbjhfnlhpallaaGreatDoorBaseA
import Derived.Test.YtcbjhfnlhpallaaGreatDoorEPlain
namespace Go.Proofs.YtcbjhfnlhpallaaGreatDoor
open Go.RowKit

def cut (s : Str) (a b : Nat) : Str := (s.take b).drop a
theorem ex_cut (s : Str) (a b : Nat) : (⟨s.toArray⟩ : ByteArray).extract a b = ⟨(cut s a b).toArray⟩ := by
  rw [Lib.extract_eq]
  unfold cut
  rw [List.drop_take]
theorem cut_len (s : Str) (a b : Nat) : (cut s a b).length ≤ s.length := by unfold cut; simp; omega
theorem cut_none' (s : Str) (a : Nat) : cut s a a = [] := by unfold cut; simp
theorem cut_all (s : Str) (a : Nat) : cut s a s.length = s.drop a := by unfold cut; simp
theorem cut_snoc {s : Str} {a j : Nat} (ha : a ≤ j) (hj : j < s.length) : cut s a (j + 1) = cut s a j ++ [s[j]] := by
  unfold cut
  rw [take_snocB s j hj, List.drop_append_of_le_length (by simp; omega)]
theorem cut_past {s : Str} {a j : Nat} (hj : s.length ≤ j) : cut s a j = s.drop a := by unfold cut; rw [List.take_of_length_le hj]
theorem st_esc {s : Str} {b j : Nat} (hb : b ≤ j) (hj : j < s.length) (h : s[j] = 92) : wdG true (cut s b j) (s.drop j) = wdG true (cut s b (j + 2)) (s.drop (j + 2)) := by
  rw [List.drop_eq_getElem_cons hj, h]
  by_cases h1 : j + 1 < s.length
  · rw [List.drop_eq_getElem_cons h1, wdG_esc, show j + 2 = j + 1 + 1 from rfl, cut_snoc (by omega) h1, cut_snoc hb hj, h]
    simp
  · have e : s.drop (j + 1) = [] := List.drop_eq_nil_of_le (by omega)
    have e2 : s.drop (j + 2) = [] := List.drop_eq_nil_of_le (by omega)
    rw [e, e2, wdG_last, wdG_nil, cut_past (j := j + 2) (by omega), ← cut_past (j := j + 1) (by omega), cut_snoc hb hj, h]
theorem st_quote {s : Str} {b j : Nat} (q : Bool) (hb : b ≤ j) (hj : j < s.length) (h : s[j] = 34) : wdG q (cut s b j) (s.drop j) = wdG (!q) (cut s b (j + 1)) (s.drop (j + 1)) := by
  rw [List.drop_eq_getElem_cons hj, h, wdG_quote, cut_snoc hb hj, h]
theorem st_blank {s : Str} {b j : Nat} (hj : j < s.length) (h : s[j] = 32) : wdG false (cut s b j) (s.drop j) = cut s b j :: wdG false (cut s (j + 1) (j + 1)) (s.drop (j + 1)) := by
  rw [List.drop_eq_getElem_cons hj, h, wdG_blank, cut_none']
theorem st_other {s : Str} {b j : Nat} {q : Bool} (hb : b ≤ j) (hj : j < s.length) (h1 : ¬ (q = true ∧ s[j] = 92)) (h2 : s[j] ≠ 34) (h3 : ¬ (s[j] = 32 ∧ q = false)) : wdG q (cut s b j) (s.drop j) = wdG q (cut s b (j + 1)) (s.drop (j + 1)) := by
  rw [List.drop_eq_getElem_cons hj, wdG_other h1 h2 h3, cut_snoc hb hj]
theorem st_end {s : Str} {b j : Nat} (q : Bool) (hj : s.length ≤ j) : wdG q (cut s b j) (s.drop j) = [cut s b s.length] := by
  rw [List.drop_eq_nil_of_le hj, wdG_nil, cut_past hj, cut_all]

set_option maxHeartbeats 4000000 in
theorem words_any (s : Str) (w : World) (hs : s.length ≤ 1000000) : Calls Tryz.prog 35 #[tx s] w fun e w' => ∃ v, e = .returned v ∧ OwnS w' w.heap.size v (wd s) ∧ Below w.heap.size w w' := by
  obtain ⟨i0, hi, hz0, hz1, hz2⟩ := info_parts9
  have hex := ex_cut s
  go_enter Tryz.func35, Tryz.ntmps35
  go_wp2
  go_loopw [3, 4, 5, 6] (fun u b q i wr => ∃ (v : Value) (l : List Str) (bg : Nat) (qq : Bool) (j : Nat), v = u ∧ b = .int .i64 bg ∧ q = .bool qq ∧ i = .int .i64 j ∧ bg ≤ j ∧ bg ≤ s.length ∧ j ≤ s.length + 1 ∧ l.length ≤ bg ∧ OwnS wr w.heap.size v l ∧ Hid (wd s = l ++ wdG qq (cut s bg j) (s.drop j)) ∧ Below w.heap.size w wr) (fun _ _ _ i _ => s.length + 1 - (intOf i).toNat)
  case atStart => exact ⟨_, [], 0, false, 0, rfl, rfl, rfl, rfl, by omega, by omega, by omega, by simp, World.ownsRow_made w #[] 0 (Nat.le_refl _) (Nat.zero_le _) (by simp), by show _ = _; simp [cut, wd], bal (Below.refl _ _) _⟩
  case round =>
    obtain ⟨v, l, bg, qq, j, rfl, rfl, rfl, rfl, hbj, hbs, hj, hlb, ho, HR, hb⟩ := hrel
    by_cases hlt : j < s.length
    · have hbk := ba_lt hlt
      by_cases hk : (((⟨s.toArray⟩ : ByteArray)[j]'hbk).toNat : Int) = 92
      · have hk' : ((((⟨s.toArray⟩ : ByteArray)[j]'hbk).toNat : Int) == 92) = true := beq_iff_eq.2 hk
        have hq' : ((((⟨s.toArray⟩ : ByteArray)[j]'hbk).toNat : Int) == 34) = false := by rw [hk]; rfl
        have hp' : ((((⟨s.toArray⟩ : ByteArray)[j]'hbk).toNat : Int) == 32) = false := by rw [hk]; rfl
        have ek := byte_eq (k := 92) (by decide) hk
        clear hk
        cases qq with
        | true =>
          have HN : Hid (wd s = l ++ wdG true (cut s bg (j + 2)) (s.drop (j + 2))) := by
            show _ = _
            rw [HR.out, st_esc hbj hlt ek]
          clear HR ek
          go_wp2
          go_roundw
          case rel => exact ⟨_, l, bg, true, j + 2, rfl, rfl, rfl, by go_num, by omega, by omega, by omega, hlb, ho, HN, hb⟩
          case measure => simp [intOf]; omega
        | false =>
          have HN : Hid (wd s = l ++ wdG false (cut s bg (j + 1)) (s.drop (j + 1))) := by
            show _ = _
            rw [HR.out, st_other hbj hlt (by simp) (fun e => by rw [show s[j] = 92 from ek] at e; revert e; decide) (fun e => by rw [show s[j] = 92 from ek] at e; revert e; decide)]
          clear HR ek
          go_wp2
          go_roundw
          case rel => exact ⟨_, l, bg, false, j + 1, rfl, rfl, rfl, by go_num, by omega, by omega, by omega, hlb, ho, HN, hb⟩
          case measure => simp [intOf]; omega
      · have hk' : ((((⟨s.toArray⟩ : ByteArray)[j]'hbk).toNat : Int) == 92) = false := beq_eq_false_iff_ne.2 hk
        have ek : s[j] ≠ 92 := byte_ne (k := 92) (by decide) hk
        clear hk
        by_cases hq : (((⟨s.toArray⟩ : ByteArray)[j]'hbk).toNat : Int) = 34
        · have hq' : ((((⟨s.toArray⟩ : ByteArray)[j]'hbk).toNat : Int) == 34) = true := beq_iff_eq.2 hq
          have HN : Hid (wd s = l ++ wdG (!qq) (cut s bg (j + 1)) (s.drop (j + 1))) := by
            show _ = _
            rw [HR.out, st_quote qq hbj hlt (byte_eq (k := 34) (by decide) hq)]
          clear HR ek hq
          cases qq <;> (
            go_wp2
            go_roundw
            case rel => exact ⟨_, l, bg, _, j + 1, rfl, rfl, rfl, by go_num, by omega, by omega, by omega, hlb, ho, HN, hb⟩
            case measure => simp [intOf]; omega)
        · have hq' : ((((⟨s.toArray⟩ : ByteArray)[j]'hbk).toNat : Int) == 34) = false := beq_eq_false_iff_ne.2 hq
          have eq : s[j] ≠ 34 := byte_ne (k := 34) (by decide) hq
          clear hq
          by_cases hp : (((⟨s.toArray⟩ : ByteArray)[j]'hbk).toNat : Int) = 32
          · have hp' : ((((⟨s.toArray⟩ : ByteArray)[j]'hbk).toNat : Int) == 32) = true := beq_iff_eq.2 hp
            have ep := byte_eq (k := 32) (by decide) hp
            clear hp
            cases qq with
            | true =>
              have HN : Hid (wd s = l ++ wdG true (cut s bg (j + 1)) (s.drop (j + 1))) := by
                show _ = _
                rw [HR.out, st_other hbj hlt (by simp [ek]) eq (by simp)]
              clear HR ek eq ep
              go_wp2
              go_roundw
              case rel => exact ⟨_, l, bg, true, j + 1, rfl, rfl, rfl, by go_num, by omega, by omega, by omega, hlb, ho, HN, hb⟩
              case measure => simp [intOf]; omega
            | false =>
              have HN : Hid (wd s = (l ++ [cut s bg j]) ++ wdG false (cut s (j + 1) (j + 1)) (s.drop (j + 1))) := by
                show _ = _
                rw [HR.out, st_blank hlt ep]
                simp
              clear HR ek eq ep
              have hbj' : (bg : Int) ≤ j := by omega
              have hjs' : (j : Int) ≤ s.length := by omega
              have ho1 := ho.later (bal (Below.refl _ _) (.cells #[tx (cut s bg j)] 9))
              have hbo := bal hb (.cells #[tx (cut s bg j)] 9)
              go_wp2_with (at_builtin; go_must (refine wpList_append_own _ rfl _ _ 48 rfl w.heap.size 9 i0 (tx []) 1 16 Tryz.underlying48 hi hz0 hz1 hz2 rfl (by decide) _ _ _ rfl ho1 ⟨wr.heap.size, 0, none⟩ 1 1 [tx (cut s bg j)] rfl rfl (one_cell (World.cell?_alloc_new wr _ _ 0)) (fun u hu => by cases hu with | head => rfl | tail _ h => cases h) ?h63 ?hby ?hbs ?_))
              case h63 => unfold maxLen; omega
              case hby => omega
              case hbs => have := hb.size; simp; omega
              intro v' w2 ho4 hg4 _
              go_wp2
              go_roundw
              case rel => exact ⟨_, l ++ [cut s bg j], j + 1, false, j + 1, rfl, by go_num, rfl, by go_num, by omega, by omega, by omega, by simp; omega, OwnS.snoc ho4, HN, hbo.grown hg4 hbo.size (fun k hk => (World.ownsRow.lt ho1 k hk).1)⟩
              case measure => simp [intOf]; omega
          · have hp' : ((((⟨s.toArray⟩ : ByteArray)[j]'hbk).toNat : Int) == 32) = false := beq_eq_false_iff_ne.2 hp
            have ep : s[j] ≠ 32 := byte_ne (k := 32) (by decide) hp
            clear hp
            have HN : Hid (wd s = l ++ wdG qq (cut s bg (j + 1)) (s.drop (j + 1))) := by
              show _ = _
              rw [HR.out, st_other hbj hlt (by simp [ek]) eq (by simp [ep])]
            clear HR ek eq ep
            cases qq <;> (
              go_wp2
              go_roundw
              case rel => exact ⟨_, l, bg, _, j + 1, rfl, rfl, rfl, by go_num, by omega, by omega, by omega, hlb, ho, HN, hb⟩
              case measure => simp [intOf]; omega)
    · have hlt' : ¬ (j : Int) < s.length := by omega
      have HN : Hid (wd s = l ++ [cut s bg s.length]) := by
        show _ = _
        rw [HR.out, st_end qq (by omega)]
      clear HR
      have hbs' : (bg : Int) ≤ s.length := by omega
      have ho1 := ho.later (bal (Below.refl _ _) (.cells #[tx (cut s bg s.length)] 9))
      have hbo := bal hb (.cells #[tx (cut s bg s.length)] 9)
      go_wp2_with (at_builtin; go_must (refine wpList_append_own _ rfl _ _ 48 rfl w.heap.size 9 i0 (tx []) 1 16 Tryz.underlying48 hi hz0 hz1 hz2 rfl (by decide) _ _ _ rfl ho1 ⟨wr.heap.size, 0, none⟩ 1 1 [tx (cut s bg s.length)] rfl rfl (one_cell (World.cell?_alloc_new wr _ _ 0)) (fun u hu => by cases hu with | head => rfl | tail _ h => cases h) ?h63 ?hby ?hbs ?_))
      case h63 => unfold maxLen; omega
      case hby => omega
      case hbs => have := hb.size; simp; omega
      intro v' w2 ho4 hg4 _
      go_wp2
      go_ret
      exact ⟨_, rfl, by rw [HN.out]; exact OwnS.snoc ho4, hbo.grown hg4 hbo.size (fun k hk => (World.ownsRow.lt ho1 k hk).1)⟩
end Go.Proofs.YtcbjhfnlhpallaaGreatDoor
