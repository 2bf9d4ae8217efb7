/- Words, Lines, kind of the reference: as the program's. -/
import Derived.Test.YtcbjhfnlhpallaaGreatDoorELineW
namespace Go.Proofs.YtcbjhfnlhpallaaGreatDoor
open Go.RowKit

set_option maxHeartbeats 4000000 in
theorem refWords_any (s : Str) (w : World) (hs : s.length ≤ 1000000) : Calls Tryz.prog 29 #[tx s] w fun e w' => ∃ v, e = .returned v ∧ OwnS w' w.heap.size v (wd s) ∧ Below w.heap.size w w' := by
  obtain ⟨i0, hi, hz0, hz1, hz2⟩ := info_parts9
  have hex := ex_cut s
  go_enter Tryz.func29, Tryz.ntmps29
  go_wp2
  go_loopw [3, 4, 5, 6] (fun u b q i wr => ∃ (v : Value) (l : List Str) (bg : Nat) (qq : Bool) (j : Nat), v = u ∧ b = .int .i64 bg ∧ q = .bool qq ∧ i = .int .i64 j ∧ bg ≤ j ∧ bg ≤ s.length ∧ j ≤ s.length + 1 ∧ l.length ≤ bg ∧ OwnS wr w.heap.size v l ∧ Hid (wd s = l ++ wdG qq (cut s bg j) (s.drop j)) ∧ Below w.heap.size w wr) (fun _ _ _ i _ => s.length + 1 - (intOf i).toNat)
  case atStart => exact ⟨_, [], 0, false, 0, rfl, rfl, rfl, rfl, by omega, by omega, by omega, by simp, ⟨rfl, Or.inl ⟨rfl, rfl⟩⟩, by show _ = _; simp [cut, wd], Below.refl _ _⟩
  case round =>
    obtain ⟨v, l, bg, qq, j, rfl, rfl, rfl, rfl, hbj, hbs, hj, hlb, ho, HR, hb⟩ := hrel
    by_cases hlt : j < s.length
    · have hbk := ba_lt hlt
      by_cases hk : (((⟨s.toArray⟩ : ByteArray)[j]'hbk).toNat : Int) = 92
      · have hk' : ((((⟨s.toArray⟩ : ByteArray)[j]'hbk).toNat : Int) == 92) = true := beq_iff_eq.2 hk
        have hq' : ((((⟨s.toArray⟩ : ByteArray)[j]'hbk).toNat : Int) == 34) = false := by rw [hk]; rfl
        have hp' : ((((⟨s.toArray⟩ : ByteArray)[j]'hbk).toNat : Int) == 32) = false := by rw [hk]; rfl
        have ek := byte_eq (k := 92) (by decide) hk
        clear hk
        cases qq with
        | true =>
          have HN : Hid (wd s = l ++ wdG true (cut s bg (j + 2)) (s.drop (j + 2))) := by
            show _ = _
            rw [HR.out, st_esc hbj hlt ek]
          clear HR ek
          go_wp2
          go_roundw
          case rel => exact ⟨_, l, bg, true, j + 2, rfl, rfl, rfl, by go_num, by omega, by omega, by omega, hlb, ho, HN, hb⟩
          case measure => simp [intOf]; omega
        | false =>
          have HN : Hid (wd s = l ++ wdG false (cut s bg (j + 1)) (s.drop (j + 1))) := by
            show _ = _
            rw [HR.out, st_other hbj hlt (by simp) (fun e => by rw [show s[j] = 92 from ek] at e; revert e; decide) (fun e => by rw [show s[j] = 92 from ek] at e; revert e; decide)]
          clear HR ek
          go_wp2
          go_roundw
          case rel => exact ⟨_, l, bg, false, j + 1, rfl, rfl, rfl, by go_num, by omega, by omega, by omega, hlb, ho, HN, hb⟩
          case measure => simp [intOf]; omega
      · have hk' : ((((⟨s.toArray⟩ : ByteArray)[j]'hbk).toNat : Int) == 92) = false := beq_eq_false_iff_ne.2 hk
        have ek : s[j] ≠ 92 := byte_ne (k := 92) (by decide) hk
        clear hk
        by_cases hq : (((⟨s.toArray⟩ : ByteArray)[j]'hbk).toNat : Int) = 34
        · have hq' : ((((⟨s.toArray⟩ : ByteArray)[j]'hbk).toNat : Int) == 34) = true := beq_iff_eq.2 hq
          have HN : Hid (wd s = l ++ wdG (!qq) (cut s bg (j + 1)) (s.drop (j + 1))) := by
            show _ = _
            rw [HR.out, st_quote qq hbj hlt (byte_eq (k := 34) (by decide) hq)]
          clear HR ek hq
          cases qq <;> (
            go_wp2
            go_roundw
            case rel => exact ⟨_, l, bg, _, j + 1, rfl, rfl, rfl, by go_num, by omega, by omega, by omega, hlb, ho, HN, hb⟩
            case measure => simp [intOf]; omega)
        · have hq' : ((((⟨s.toArray⟩ : ByteArray)[j]'hbk).toNat : Int) == 34) = false := beq_eq_false_iff_ne.2 hq
          have eq : s[j] ≠ 34 := byte_ne (k := 34) (by decide) hq
          clear hq
          by_cases hp : (((⟨s.toArray⟩ : ByteArray)[j]'hbk).toNat : Int) = 32
          · have hp' : ((((⟨s.toArray⟩ : ByteArray)[j]'hbk).toNat : Int) == 32) = true := beq_iff_eq.2 hp
            have ep := byte_eq (k := 32) (by decide) hp
            clear hp
            cases qq with
            | true =>
              have HN : Hid (wd s = l ++ wdG true (cut s bg (j + 1)) (s.drop (j + 1))) := by
                show _ = _
                rw [HR.out, st_other hbj hlt (by simp [ek]) eq (by simp)]
              clear HR ek eq ep
              go_wp2
              go_roundw
              case rel => exact ⟨_, l, bg, true, j + 1, rfl, rfl, rfl, by go_num, by omega, by omega, by omega, hlb, ho, HN, hb⟩
              case measure => simp [intOf]; omega
            | false =>
              have HN : Hid (wd s = (l ++ [cut s bg j]) ++ wdG false (cut s (j + 1) (j + 1)) (s.drop (j + 1))) := by
                show _ = _
                rw [HR.out, st_blank hlt ep]
                simp
              clear HR ek eq ep
              have hbj' : (bg : Int) ≤ j := by omega
              have hjs' : (j : Int) ≤ s.length := by omega
              have ho1 := ho.later (bal (Below.refl _ _) (.cells #[tx (cut s bg j)] 9))
              have hbo := bal hb (.cells #[tx (cut s bg j)] 9)
              go_wp2_with (at_builtin; go_must (refine wpList_append_own _ rfl _ _ 48 rfl w.heap.size 9 i0 (tx []) 1 16 Tryz.underlying48 hi hz0 hz1 hz2 rfl (by decide) _ _ _ rfl ho1 ⟨wr.heap.size, 0, none⟩ 1 1 [tx (cut s bg j)] rfl rfl (one_cell (World.cell?_alloc_new wr _ _ 0)) (fun u hu => by cases hu with | head => rfl | tail _ h => cases h) ?h63 ?hby ?hbs ?_))
              case h63 => unfold maxLen; omega
              case hby => omega
              case hbs => have := hb.size; simp; omega
              intro v' w2 ho4 hg4 _
              go_wp2
              go_roundw
              case rel => exact ⟨_, l ++ [cut s bg j], j + 1, false, j + 1, rfl, by go_num, rfl, by go_num, by omega, by omega, by omega, by simp; omega, OwnS.snoc ho4, HN, hbo.grown hg4 hbo.size (fun k hk => (World.ownsRow.lt ho1 k hk).1)⟩
              case measure => simp [intOf]; omega
          · have hp' : ((((⟨s.toArray⟩ : ByteArray)[j]'hbk).toNat : Int) == 32) = false := beq_eq_false_iff_ne.2 hp
            have ep : s[j] ≠ 32 := byte_ne (k := 32) (by decide) hp
            clear hp
            have HN : Hid (wd s = l ++ wdG qq (cut s bg (j + 1)) (s.drop (j + 1))) := by
              show _ = _
              rw [HR.out, st_other hbj hlt (by simp [ek]) eq (by simp [ep])]
            clear HR ek eq ep
            cases qq <;> (
              go_wp2
              go_roundw
              case rel => exact ⟨_, l, bg, _, j + 1, rfl, rfl, rfl, by go_num, by omega, by omega, by omega, hlb, ho, HN, hb⟩
              case measure => simp [intOf]; omega)
    · have hlt' : ¬ (j : Int) < s.length := by omega
      have HN : Hid (wd s = l ++ [cut s bg s.length]) := by
        show _ = _
        rw [HR.out, st_end qq (by omega)]
      clear HR
      have hbs' : (bg : Int) ≤ s.length := by omega
      have ho1 := ho.later (bal (Below.refl _ _) (.cells #[tx (cut s bg s.length)] 9))
      have hbo := bal hb (.cells #[tx (cut s bg s.length)] 9)
      go_wp2_with (at_builtin; go_must (refine wpList_append_own _ rfl _ _ 48 rfl w.heap.size 9 i0 (tx []) 1 16 Tryz.underlying48 hi hz0 hz1 hz2 rfl (by decide) _ _ _ rfl ho1 ⟨wr.heap.size, 0, none⟩ 1 1 [tx (cut s bg s.length)] rfl rfl (one_cell (World.cell?_alloc_new wr _ _ 0)) (fun u hu => by cases hu with | head => rfl | tail _ h => cases h) ?h63 ?hby ?hbs ?_))
      case h63 => unfold maxLen; omega
      case hby => omega
      case hbs => have := hb.size; simp; omega
      intro v' w2 ho4 hg4 _
      go_wp2
      go_ret
      exact ⟨_, rfl, by rw [HN.out]; exact OwnS.snoc ho4, hbo.grown hg4 hbo.size (fun k hk => (World.ownsRow.lt ho1 k hk).1)⟩
theorem sp_esc {s : Str} {b j : Nat} {c : UInt8} (hj : j < s.length) (h : s[j] = c) : spG c (cut s b j) (s.drop j) = cut s b j :: spG c (cut s (j + 1) (j + 1)) (s.drop (j + 1)) := by
  rw [List.drop_eq_getElem_cons hj, h, spG_hit, cut_none']
theorem sp_other {s : Str} {b j : Nat} {c : UInt8} (hb : b ≤ j) (hj : j < s.length) (h : s[j] ≠ c) : spG c (cut s b j) (s.drop j) = spG c (cut s b (j + 1)) (s.drop (j + 1)) := by
  rw [List.drop_eq_getElem_cons hj, spG_miss h, cut_snoc hb hj]
theorem sp_end {s : Str} {b j : Nat} (c : UInt8) (hj : s.length ≤ j) : spG c (cut s b j) (s.drop j) = [cut s b s.length] := by
  rw [List.drop_eq_nil_of_le hj, spG_nil, cut_past hj, cut_all]
set_option maxHeartbeats 4000000 in
theorem refLines_any (s : Str) (w : World) (hs : s.length ≤ 1000000) : Calls Tryz.prog 28 #[tx s] w fun e w' => ∃ v, e = .returned v ∧ OwnS w' w.heap.size v (sp 10 s) ∧ Below w.heap.size w w' := by
  obtain ⟨i0, hi, hz0, hz1, hz2⟩ := info_parts9
  have hex := ex_cut s
  go_enter Tryz.func28, Tryz.ntmps28
  go_wp2
  go_loopw [3, 4, 5] (fun u b i wr => ∃ (v : Value) (l : List Str) (bg : Nat) (j : Nat), v = u ∧ b = .int .i64 bg ∧ i = .int .i64 j ∧ bg ≤ j ∧ j ≤ s.length ∧ l.length ≤ bg ∧ OwnS wr w.heap.size v l ∧ Hid (sp 10 s = l ++ spG 10 (cut s bg j) (s.drop j)) ∧ Below w.heap.size w wr) (fun _ _ i _ => s.length + 1 - (intOf i).toNat)
  case atStart => exact ⟨_, [], 0, 0, rfl, rfl, rfl, by omega, by omega, by simp, ⟨rfl, Or.inl ⟨rfl, rfl⟩⟩, by show _ = _; simp [cut, sp], Below.refl _ _⟩
  case round =>
    obtain ⟨v, l, bg, j, rfl, rfl, rfl, hbj, hj, hlb, ho, HR, hb⟩ := hrel
    by_cases hlt : j < s.length
    · have hbk := ba_lt hlt
      by_cases hp : (((⟨s.toArray⟩ : ByteArray)[j]'hbk).toNat : Int) = 10
      · have hp' : ((((⟨s.toArray⟩ : ByteArray)[j]'hbk).toNat : Int) == 10) = true := beq_iff_eq.2 hp
        have HN : Hid (sp 10 s = (l ++ [cut s bg j]) ++ spG 10 (cut s (j + 1) (j + 1)) (s.drop (j + 1))) := by
          show _ = _
          rw [HR.out, sp_esc (c := 10) hlt (byte_eq (k := 10) (by decide) hp)]
          simp
        clear HR hp
        have hbj' : (bg : Int) ≤ j := by omega
        have hjs' : (j : Int) ≤ s.length := by omega
        have ho1 := ho.later (bal (Below.refl _ _) (.cells #[tx (cut s bg j)] 9))
        have hbo := bal hb (.cells #[tx (cut s bg j)] 9)
        go_wp2_with (at_builtin; go_must (refine wpList_append_own _ rfl _ _ 48 rfl w.heap.size 9 i0 (tx []) 1 16 Tryz.underlying48 hi hz0 hz1 hz2 rfl (by decide) _ _ _ rfl ho1 ⟨wr.heap.size, 0, none⟩ 1 1 [tx (cut s bg j)] rfl rfl (one_cell (World.cell?_alloc_new wr _ _ 0)) (fun u hu => by cases hu with | head => rfl | tail _ h => cases h) ?h63 ?hby ?hbs ?_))
        case h63 => unfold maxLen; omega
        case hby => omega
        case hbs => have := hb.size; simp; omega
        intro v' w2 ho4 hg4 _
        go_wp2
        go_roundw
        case rel => exact ⟨_, l ++ [cut s bg j], j + 1, j + 1, rfl, by go_num, by go_num, by omega, by omega, by simp; omega, OwnS.snoc ho4, HN, hbo.grown hg4 hbo.size (fun k hk => (World.ownsRow.lt ho1 k hk).1)⟩
        case measure => simp [intOf]; omega
      · have hp' : ((((⟨s.toArray⟩ : ByteArray)[j]'hbk).toNat : Int) == 10) = false := beq_eq_false_iff_ne.2 hp
        have HN : Hid (sp 10 s = l ++ spG 10 (cut s bg (j + 1)) (s.drop (j + 1))) := by
          show _ = _
          rw [HR.out, sp_other (c := 10) hbj hlt (byte_ne (k := 10) (by decide) hp)]
        clear HR hp
        go_wp2
        go_roundw
        case rel => exact ⟨_, l, bg, j + 1, rfl, rfl, by go_num, by omega, by omega, hlb, ho, HN, hb⟩
        case measure => simp [intOf]; omega
    · have hlt' : ¬ (j : Int) < s.length := by omega
      have HN : Hid (sp 10 s = l ++ [cut s bg s.length]) := by
        show _ = _
        rw [HR.out, sp_end 10 (by omega)]
      clear HR
      have hbs' : (bg : Int) ≤ s.length := by omega
      have ho1 := ho.later (bal (Below.refl _ _) (.cells #[tx (cut s bg s.length)] 9))
      have hbo := bal hb (.cells #[tx (cut s bg s.length)] 9)
      go_wp2_with (at_builtin; go_must (refine wpList_append_own _ rfl _ _ 48 rfl w.heap.size 9 i0 (tx []) 1 16 Tryz.underlying48 hi hz0 hz1 hz2 rfl (by decide) _ _ _ rfl ho1 ⟨wr.heap.size, 0, none⟩ 1 1 [tx (cut s bg s.length)] rfl rfl (one_cell (World.cell?_alloc_new wr _ _ 0)) (fun u hu => by cases hu with | head => rfl | tail _ h => cases h) ?h63 ?hby ?hbs ?_))
      case h63 => unfold maxLen; omega
      case hby => omega
      case hbs => have := hb.size; simp; omega
      intro v' w2 ho4 hg4 _
      go_wp2
      go_ret
      exact ⟨_, rfl, by rw [HN.out]; exact OwnS.snoc ho4, hbo.grown hg4 hbo.size (fun k hk => (World.ownsRow.lt ho1 k hk).1)⟩
/-- What kind tells: -1 of none. -/
def kI (s : Str) : Int := match kOf s with
  | some x => x
  | none => -1
theorem kI_hit {s : Str} {j : Nat} (hj : j < 3) (hb : bef s j) (h : kwd (j : Int) = s) : kI s = (j : Int) := by
  obtain ⟨e1, e2⟩ := kOf_hit hj hb h
  unfold kI
  cases e : kOf s with
  | none => rw [e] at e2; cases e2
  | some x => rw [e] at e1; exact e1
theorem kI_miss {s : Str} (hb : bef s 3) : kI s = -1 := by
  obtain ⟨_, e2⟩ := kOf_miss hb
  unfold kI
  cases e : kOf s with
  | none => rfl
  | some x => rw [e] at e2; cases e2
set_option maxHeartbeats 4000000 in
theorem refKind_any (s : Str) (w : World) : Calls Tryz.prog 31 #[tx s] w fun e w' => e = .returned (.int .i64 (kI s)) ∧ Below w.heap.size w w' := by
  have hb0 := bal (Below.refl _ w) (.cells #[tx [117, 110, 116, 121, 112, 101, 100], tx [99, 111, 117, 110, 116, 101, 114], tx [103, 97, 117, 103, 101]] 62)
  have HH : Hid (∀ j : Nat, j < 3 → bef s j → kwd (j : Int) = s → kI s = (j : Int)) := fun j h1 h2 h3 => kI_hit h1 h2 h3
  have HM : Hid (bef s 3 → kI s = -1) := kI_miss
  have hcell : ∀ j : Nat, j < 3 → (w.alloc (.cells #[tx [117, 110, 116, 121, 112, 101, 100], tx [99, 111, 117, 110, 116, 101, 114], tx [103, 97, 117, 103, 101]] 62)).cell? ⟨w.heap.size, j, none⟩ = some (tx (kwd (j : Int))) := by
    intro j hj
    have : j = 0 ∨ j = 1 ∨ j = 2 := by omega
    rcases this with rfl | rfl | rfl
    · show _ = some (tx [117, 110, 116, 121, 112, 101, 100])
      simp [go_sem]
    · show _ = some (tx [99, 111, 117, 110, 116, 101, 114])
      simp [go_sem]
    · show _ = some (tx [103, 97, 117, 103, 101])
      simp [go_sem]
  generalize kI s = x at *
  go_enter Tryz.func31, Tryz.ntmps31
  go_wp2_with fail
  generalize w.alloc (.cells _ 62) = w0 at *
  go_loop [4] (fun i => ∃ j : Nat, j ≤ 3 ∧ i = .int .i64 j ∧ Hid (bef s j)) (fun i => 3 - (intOf i).toNat)
  case atStart => exact ⟨0, by omega, rfl, fun i hi => by omega⟩
  case round =>
    obtain ⟨j, hj, rfl, HB⟩ := hrel
    by_cases hlt : j < 3
    · have hc := hcell j hlt
      by_cases he : kwd (j : Int) = s
      · have HX : Hid (x = (j : Int)) := HH.out j hlt HB.out he
        have he' : (s == s) = true := by simp
        rw [he] at hc
        clear he HH HM hcell
        go_wp2
        go_ret
        exact ⟨by rw [HX.out]; rfl, hb0⟩
      · have he' : (kwd (j : Int) == s) = false := beq_eq_false_iff_ne.2 he
        have HB' : Hid (bef s (j + 1)) := fun i hi e => by
          rcases Nat.lt_or_ge i j with h | h
          · exact HB.out i h e
          · obtain rfl : i = j := by omega
            exact he e.symm
        clear he HH HM hcell HB
        generalize kwd (j : Int) = t at *
        go_wp2
        go_round
        case rel => exact ⟨j + 1, by omega, by go_num, HB'⟩
        case measure => simp [intOf]; omega
    · obtain rfl : j = 3 := by omega
      have HX : Hid (x = -1) := HM.out HB.out
      clear HH HM hcell
      go_wp2
      go_ret
      exact ⟨by rw [HX.out]; rfl, hb0⟩
end Go.Proofs.YtcbjhfnlhpallaaGreatDoor
