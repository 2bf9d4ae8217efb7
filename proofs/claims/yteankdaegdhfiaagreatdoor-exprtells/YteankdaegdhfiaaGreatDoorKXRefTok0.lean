/- Texts that the others lean on. -/
import Derived.Test.YteankdaegdhfiaaGreatDoorKMX
import Derived.Test.YteankdaegdhfiaaGreatDoorKBaseG
namespace Go.Proofs.YteankdaegdhfiaaGreatDoor
open Go.RowKit
def lettB (c : UInt8) : Bool := letB c || decide (c.toNat = 95)
theorem letter_any (c : UInt8) (w : World) : Calls Tryz.prog 103 #[.int .u8 c.toNat] w fun e w' => e = .returned (.bool (lettB c)) ∧ w = w' := by
 unfold lettB letB
 go_enter Tryz.func103, Tryz.ntmps103
 go_wp2
 all_goals
  go_ret
  exact ⟨ret_bool (by rw [Bool.eq_iff_iff]; simp; omega), rfl⟩
theorem rdigit_any (c : UInt8) (w : World) : Calls Tryz.prog 104 #[.int .u8 c.toNat] w fun e w' => e = .returned (.bool (digB c)) ∧ w = w' := by
 unfold digB
 go_enter Tryz.func104, Tryz.ntmps104
 go_wp2
 all_goals
  go_ret
  exact ⟨ret_bool (by rw [Bool.eq_iff_iff]; simp; omega), rfl⟩
theorem name_or (c : UInt8) : nameCh c = (lettB c || digB c) := by
 unfold nameCh lettB
 cases digB c <;> cases letB c <;> simp
/-- A whole number of at most three digits, or -1. -/
def wOk (s : Str) : Bool := Fx.fDigits s 3 && (decide (s.length = 1) || decide (s.head? ≠ some 48))
def wI (s : Str) : Int := if wOk s = true then (Fx.rd s : Int) else -1
theorem wI_no {s : Str} (h : wOk s = false) : wI s = -1 := by unfold wI; rw [h]; rfl
theorem wI_yes {s : Str} (h : wOk s = true) : wI s = (Fx.rd s : Int) := by unfold wI; rw [if_pos h]
theorem wOk_len {s : Str} (h : s.length < 1 ∨ 3 < s.length) : wOk s = false := by
 unfold wOk Fx.fDigits
 rcases h with h | h
 ·
  rw [decide_eq_false (by omega : ¬ 1 ≤ s.length)]; rfl
 ·
  rw [decide_eq_false (by omega : ¬ s.length ≤ 3)]; simp
theorem wOk_head {s : Str} (h : 1 < s.length) (hh : s.head? = some 48) : wOk s = false := by
 unfold wOk
 rw [decide_eq_false (by omega : ¬ s.length = 1), decide_eq_false (fun e => e hh)]
 simp
theorem wOk_dg {s : Str} (h : Fx.dgs s = false) : wOk s = false := by
 unfold wOk Fx.fDigits
 rw [h]
 simp
theorem wOk_yes {s : Str} (h1 : 1 ≤ s.length) (h2 : s.length ≤ 3) (hd : Fx.dgs s = true) (hn : s.length = 1 ∨ s.head? ≠ some 48) : wOk s = true := by
 unfold wOk Fx.fDigits
 rw [decide_eq_true h1, decide_eq_true h2, hd, Bool.and_eq_true, Bool.or_eq_true, decide_eq_true_iff, decide_eq_true_iff]
 exact ⟨rfl, hn⟩
theorem wOk_du (s : Str) : duOk s = true ↔ wOk s = true ∧ 1 ≤ wI s ∧ wI s ≤ 100 := by
 constructor
 ·
  intro h
  obtain ⟨h1, h2, h3, h4, h5, h6⟩ := duOk_of h
  have hw := wOk_yes h1 h2 h3 h4
  rw [wI_yes hw]
  exact ⟨hw, by omega, by omega⟩
 ·
  rintro ⟨hw, h5, h6⟩
  rw [wI_yes hw] at h5 h6
  unfold wOk at hw
  rw [Bool.and_eq_true, Bool.or_eq_true, decide_eq_true_iff, decide_eq_true_iff] at hw
  obtain ⟨h1, h2, h3⟩ := Fx.digits_of hw.1
  exact duOk_to h1 h2 h3 hw.2 (by omega) (by omega)
theorem dgs_part {s : Str} {k : Nat} (hk : k ≤ s.length) (hd : Fx.dgs (s.take k) = true) (he : k = s.length ∨ ∃ h : k < s.length, Fx.isDg s[k] = false) : (k = s.length ∧ Fx.dgs s = true) ∨ (k ≠ s.length ∧ Fx.dgs s = false) := by
 rcases he with e | ⟨h1, h2⟩
 ·
  subst e
  rw [List.take_of_length_le (Nat.le_refl _)] at hd
  exact Or.inl ⟨rfl, hd⟩
 ·
  refine Or.inr ⟨by omega, ?_⟩
  unfold Fx.dgs
  exact List.all_eq_false.2 ⟨s[k], List.getElem_mem h1, by simp [h2]⟩
set_option maxHeartbeats 4000000 in
theorem xwhole_any (s : Str) (w : World) (hs : s.length ≤ 1000) : Calls Tryz.prog 168 #[tx s, .int .i64 3] w fun e w' => e = .returned (.int .i64 (wI s)) ∧ w = w' := by
 have hdg := Fx.rdig_any s w hs
 by_cases h1 : s.length < 1
 ·
  have HW : Hid (wI s = -1) := wI_no (wOk_len (Or.inl h1))
  have h1' : (s.length : Int) < 1 := by omega
  generalize wI s = V at *
  clear h1 hdg
  go_enter Tryz.func168, Tryz.ntmps168
  go_wp2
  go_ret
  exact ⟨by rw [HW.out]; rfl, rfl⟩
 ·
  have h1' : ¬ (s.length : Int) < 1 := by omega
  by_cases h7 : 3 < s.length
  ·
   have HW : Hid (wI s = -1) := wI_no (wOk_len (Or.inr h7))
   have h7' : (3 : Int) < s.length := by omega
   generalize wI s = V at *
   clear h1 h7 hdg
   go_enter Tryz.func168, Tryz.ntmps168
   go_wp2
   go_ret
   exact ⟨by rw [HW.out]; rfl, rfl⟩
  ·
   have h7' : ¬ (3 : Int) < s.length := by omega
   have h0 : 0 < s.length := by omega
   have hb0 := Fx.ba_lt h0
   have key : ∀ (hn : s.length = 1 ∨ s.head? ≠ some 48) (k : Nat) (hd : Fx.dgs s = true), wOk s = true := fun hn _ hd => wOk_yes (by omega) (by omega) hd hn
   by_cases hl : 1 < s.length
   ·
    have hl' : (1 : Int) < s.length := by omega
    by_cases hz : (((⟨s.toArray⟩ : ByteArray)[0]'hb0).toNat : Int) = 48
    ·
     have HW : Hid (wI s = -1) := wI_no (wOk_head hl (Fx.head_is h0 hz))
     generalize wI s = V at *
     clear h1 h7 hdg hl key
     go_enter Tryz.func168, Tryz.ntmps168
     go_wp2
     go_ret
     exact ⟨by rw [HW.out]; rfl, rfl⟩
    ·
     have hn : s.length = 1 ∨ s.head? ≠ some 48 := Or.inr (Fx.head_isnt h0 hz)
     have KEY : Hid (Fx.dgs s = true → wOk s = true) := key hn 0
     clear h1 h7 hl key hn
     go_enter Tryz.func168, Tryz.ntmps168
     go_wp2_with fail
     refine hdg.mono ?_
     rintro e w1 ⟨⟨k, hk, hd, he, rfl⟩, rfl⟩
     have hp := dgs_part hk hd he
     clear hd he
     rcases hp with ⟨hke, hd⟩ | ⟨hke, hd⟩
     ·
      have hke' : ((k : Int) != (s.length : Int)) = false := by rw [bne_eq_false_iff_eq]; omega
      have HD : Hid (Fx.dgs s = true) := hd
      have HW : Hid (wI s = (Fx.rd s : Int)) := wI_yes (KEY.out hd)
      clear hd hke KEY hdg
      go_wp2_with fail
      go_loop [5, 6] (fun n i => ∃ a : Nat, a ≤ s.length ∧ i = .int .i64 a ∧ n = .int .i64 (Fx.rd (s.take a) : Nat)) (fun _ i => s.length - (intOf i).toNat)
      case atStart => exact ⟨0, by omega, rfl, by rw [List.take_zero]; rfl⟩
      case round =>
       obtain ⟨a, hak, rfl, rfl⟩ := hrel
       have hr0 := Fx.rd_bound (t := s) (k := s.length) (Nat.le_refl _) (Fx.dgs_take HD.out _) hak
       have hr : Fx.rd (s.take a) < 10000000000000 := by have := Fx.ten13 (show a ≤ 13 by omega); omega
       clear hr0
       by_cases hlt : a < s.length
       ·
        have hbk := Fx.ba_lt hlt
        obtain ⟨hc1, hc2⟩ := Fx.dgs_at (t := s) (k := s.length) (Nat.le_refl _) (Fx.dgs_take HD.out _) hlt
        have HS : Hid _ := Fx.rd_next hlt
        generalize Fx.rd (s.take a) = r at *
        go_wp2_with fail
        go_round
        case rel => exact ⟨a + 1, by omega, by go_num, by rw [HS.out]; go_num⟩
        case measure => simp [intOf]; omega
       ·
        have HT : Hid (Fx.rd (s.take a) = Fx.rd s) := by show _ = _; rw [List.take_of_length_le (by omega)]
        generalize Fx.rd (s.take a) = r at *
        go_wp2_with fail
        go_ret
        exact ⟨by rw [HW.out, ← HT.out]; rfl, rfl⟩
     ·
      have hke' : ((k : Int) != (s.length : Int)) = true := by rw [bne_iff_ne]; omega
      have HW : Hid (wI s = -1) := wI_no (wOk_dg hd)
      clear hd hke KEY hdg
      go_wp2_with fail
      go_ret
      exact ⟨by rw [HW.out]; rfl, rfl⟩
   ·
    have hl' : ¬ (1 : Int) < s.length := by omega
    have hn : s.length = 1 ∨ s.head? ≠ some 48 := Or.inl (by omega)
    have KEY : Hid (Fx.dgs s = true → wOk s = true) := key hn 0
    clear h1 h7 hl key hn hb0
    go_enter Tryz.func168, Tryz.ntmps168
    go_wp2_with fail
    refine hdg.mono ?_
    rintro e w1 ⟨⟨k, hk, hd, he, rfl⟩, rfl⟩
    have hp := dgs_part hk hd he
    clear hd he
    rcases hp with ⟨hke, hd⟩ | ⟨hke, hd⟩
    ·
     have hke' : ((k : Int) != (s.length : Int)) = false := by rw [bne_eq_false_iff_eq]; omega
     have HD : Hid (Fx.dgs s = true) := hd
     have HW : Hid (wI s = (Fx.rd s : Int)) := wI_yes (KEY.out hd)
     clear hd hke KEY hdg
     go_wp2_with fail
     go_loop [5, 6] (fun n i => ∃ a : Nat, a ≤ s.length ∧ i = .int .i64 a ∧ n = .int .i64 (Fx.rd (s.take a) : Nat)) (fun _ i => s.length - (intOf i).toNat)
     case atStart => exact ⟨0, by omega, rfl, by rw [List.take_zero]; rfl⟩
     case round =>
      obtain ⟨a, hak, rfl, rfl⟩ := hrel
      have hr0 := Fx.rd_bound (t := s) (k := s.length) (Nat.le_refl _) (Fx.dgs_take HD.out _) hak
      have hr : Fx.rd (s.take a) < 10000000000000 := by have := Fx.ten13 (show a ≤ 13 by omega); omega
      clear hr0
      by_cases hlt : a < s.length
      ·
       have hbk := Fx.ba_lt hlt
       obtain ⟨hc1, hc2⟩ := Fx.dgs_at (t := s) (k := s.length) (Nat.le_refl _) (Fx.dgs_take HD.out _) hlt
       have HS : Hid _ := Fx.rd_next hlt
       generalize Fx.rd (s.take a) = r at *
       go_wp2_with fail
       go_round
       case rel => exact ⟨a + 1, by omega, by go_num, by rw [HS.out]; go_num⟩
       case measure => simp [intOf]; omega
      ·
       have HT : Hid (Fx.rd (s.take a) = Fx.rd s) := by show _ = _; rw [List.take_of_length_le (by omega)]
       generalize Fx.rd (s.take a) = r at *
       go_wp2_with fail
       go_ret
       exact ⟨by rw [HW.out, ← HT.out]; rfl, rfl⟩
    ·
     have hke' : ((k : Int) != (s.length : Int)) = true := by rw [bne_iff_ne]; omega
     have HW : Hid (wI s = -1) := wI_no (wOk_dg hd)
     clear hd hke KEY hdg
     go_wp2_with fail
     go_ret
     exact ⟨by rw [HW.out]; rfl, rfl⟩
/-! ### number -/
theorem amt_dur {s : Str} (h : (s.drop (dgN s)).head? = some 116) : tkAmt s = tkDur (s.take (dgN s)) := by unfold tkAmt; rw [if_pos h]
theorem amt_num {s : Str} (h : ¬ (s.drop (dgN s)).head? = some 116) : tkAmt s = tkNum (s.take (dgN s + decN (s.drop (dgN s)))) := by unfold tkAmt; rw [if_neg h]
theorem drop_head {s : Str} {k : Nat} (h : k < s.length) : (s.drop k).head? = some s[k] := by rw [List.drop_eq_getElem_cons h]; rfl
theorem drop_tail {s : Str} {k : Nat} : (s.drop k).tail = s.drop (k + 1) := by rw [List.tail_drop]
theorem decN_no {s : Str} {k : Nat} (h : ¬ (k + 1 < s.length) ∨ (∃ hk : k < s.length, s[k] ≠ 46) ∨ (∃ hk : k + 1 < s.length, digB s[k + 1] = false)) : decN (s.drop k) = 0 := by
 unfold decN
 by_cases h1 : (s.drop k).head? = some 46
 ·
  rw [if_pos h1, drop_tail]
  have hk : k < s.length := by
   by_cases hk : k < s.length
   ·
    exact hk
   ·
    rw [List.drop_of_length_le (by omega)] at h1; cases h1
  rw [drop_head hk] at h1
  have e46 : s[k] = 46 := Option.some.inj h1
  have h0 : dgN (s.drop (k + 1)) = 0 := by
   rcases h with h | ⟨_, h⟩ | ⟨hk2, h⟩
   ·
    rw [List.drop_of_length_le (by omega)]; rfl
   ·
    exact absurd e46 h
   ·
    unfold dgN
    rw [List.drop_eq_getElem_cons hk2, List.takeWhile_cons_of_neg (by simp [h])]
    rfl
  rw [if_pos h0]
 ·
  rw [if_neg h1]
theorem decN_yes {s : Str} {k : Nat} (hk : k + 1 < s.length) (h1 : s[k] = 46) (h2 : digB s[k + 1] = true) : decN (s.drop k) = 1 + dgN (s.drop (k + 1)) := by
 unfold decN
 rw [drop_head (by omega), h1, if_pos rfl, drop_tail, if_neg]
 unfold dgN
 rw [List.drop_eq_getElem_cons hk, List.takeWhile_cons_of_pos h2]
 simp
end Go.Proofs.YteankdaegdhfiaaGreatDoor
