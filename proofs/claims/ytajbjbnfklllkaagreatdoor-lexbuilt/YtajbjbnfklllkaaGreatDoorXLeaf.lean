/- unblanked, isDigit, isNameByte, run, decimals, identifier, number: each for every argument. -/
import Derived.Test.YtajbjbnfklllkaaGreatDoorXMem
import Derived.Test.YtajbjbnfklllkaaGreatDoorXTok
namespace Go.Proofs.YtajbjbnfklllkaaGreatDoor
open Go.RowKit

theorem unblanked_any (s : Str) (w : World) : Calls Tryz.prog 18 #[tx s] w fun e w' => e = .returned (tx (lead s)) ∧ Below w.heap.size w w' := by
  have h := Tryz.x_strings_TrimLeft ⟨s.toArray⟩ ⟨#[32, 9]⟩ w (by decide) (ascii_of_all (by decide))
  have e : Lib.trimLeftS s [32, 9] = lead s := rfl
  have h' : Calls Tryz.prog 24 #[tx s, .string ⟨#[32, 9]⟩] w fun e w' => e = .returned (tx (lead s)) ∧ Below w.heap.size w w' := h
  clear h e
  generalize lead s = r at *
  go_enter Tryz.func18, Tryz.ntmps18
  go_wp2_with fail
  refine h'.mono ?_
  rintro e w1 ⟨rfl, hb1⟩
  go_wp2_with fail
  go_ret
  exact ⟨rfl, hb1⟩
theorem xDigit_any (c : UInt8) (w : World) : Calls Tryz.prog 25 #[.int .u8 c.toNat] w fun e w' => e = .returned (.bool (digB c)) ∧ w = w' := by
  unfold digB
  go_enter Tryz.func25, Tryz.ntmps25
  go_wp2
  all_goals
    go_ret
    exact ⟨ret_bool (by rw [Bool.eq_iff_iff]; simp; omega), rfl⟩
theorem xName_any (c : UInt8) (w : World) : Calls Tryz.prog 27 #[.int .u8 c.toNat] w fun e w' => e = .returned (.bool (nameCh c)) ∧ w = w' := by
  have hd := fun W => xDigit_any c W
  cases hdc : digB c with
  | true =>
    rw [hdc] at hd
    have HN : Hid (nameCh c = true) := by show _ = _; unfold nameCh; rw [hdc]; rfl
    clear hdc
    go_enter Tryz.func27, Tryz.ntmps27
    go_wp2_with fail
    refine (hd _).mono ?_
    rintro e w1 ⟨rfl, rfl⟩
    go_wp2
    go_ret
    exact ⟨ret_bool HN.out.symm, rfl⟩
  | false =>
    rw [hdc] at hd
    have HN : Hid (nameCh c = (letB c || decide (c.toNat = 95))) := by show _ = _; unfold nameCh; rw [hdc]; rfl
    clear hdc
    go_enter Tryz.func27, Tryz.ntmps27
    go_wp2_with fail
    refine (hd _).mono ?_
    rintro e w1 ⟨rfl, rfl⟩
    go_wp2
    all_goals
      go_ret
      exact ⟨ret_bool (by rw [HN.out, Bool.eq_iff_iff]; unfold letB; simp; omega), rfl⟩
set_option maxHeartbeats 1000000 in
theorem run_any (p : UInt8 → Bool) (g : Nat) (s : Str) (w : World) (hs : s.length ≤ 1000000) (eg : ∀ args w, (callFunc g args).run Tryz.prog w = .ok (.enter g args) w)
    (hp : ∀ c W, Calls Tryz.prog g #[.int .u8 c.toNat] W fun e w' => e = .returned (.bool (p c)) ∧ W = w') :
    Calls Tryz.prog 29 #[tx s, .func (.func g) #[] #[]] w fun e w' => e = .returned (.int .i64 ((s.takeWhile p).length : Nat)) ∧ w = w' := by
  have HP : Aside _ := hp
  clear hp
  go_enter Tryz.func29, Tryz.ntmps29
  go_wp2_with fail
  go_loop [5] (fun i => ∃ k : Nat, k ≤ s.length ∧ i = .int .i64 k ∧ Hid (∀ i (hi : i < s.length), i < k → p s[i] = true)) (fun i => s.length - (intOf i).toNat)
  case atStart => exact ⟨0, by omega, rfl, fun i h h2 => by omega⟩
  case round =>
    obtain ⟨k, hk, rfl, ha⟩ := hrel
    by_cases hlt : k < s.length
    · have hbk := ba_lt hlt
      have HC : Hid (s[k] = (⟨s.toArray⟩ : ByteArray)[k]'hbk) := rfl
      cases hc : p ((⟨s.toArray⟩ : ByteArray)[k]'hbk) with
      | true =>
        have HR : Hid (∀ i (hi : i < s.length), i < k + 1 → p s[i] = true) := fun i hi h => by
          by_cases e : i = k
          · subst e; rw [HC.out]; exact hc
          · exact ha.out i hi (by omega)
        clear ha HC
        go_wp2_with (go_at_fn g; refine (HP.out _ _).mono ?_; rw [hc]; rintro e w' ⟨rfl, rfl⟩)
        go_round
        case rel => exact ⟨k + 1, by omega, by go_num, HR⟩
        case measure => simp [intOf]; omega
      | false =>
        have HR : Hid ((s.takeWhile p).length = k) := run_len hk ha.out (fun _ => by rw [HC.out]; exact hc)
        clear ha HC
        go_wp2_with (go_at_fn g; refine (HP.out _ _).mono ?_; rw [hc]; rintro e w' ⟨rfl, rfl⟩)
        go_ret
        exact ⟨by rw [HR.out]; rfl, rfl⟩
    · have HR : Hid ((s.takeWhile p).length = k) := run_len hk ha.out (fun h => absurd h hlt)
      clear ha
      go_wp2_with fail
      go_ret
      exact ⟨by rw [HR.out]; rfl, rfl⟩
theorem enters25 : ∀ args w, (callFunc 25 args).run Tryz.prog w = .ok (.enter 25 args) w := enters_of Tryz.func25 (by kernel_rfl) rfl
theorem enters27 : ∀ args w, (callFunc 27 args).run Tryz.prog w = .ok (.enter 27 args) w := enters_of Tryz.func27 (by kernel_rfl) rfl
theorem runD_any (s : Str) (w : World) (hs : s.length ≤ 1000000) : Calls Tryz.prog 29 #[tx s, .func (.func 25) #[] #[]] w fun e w' => e = .returned (.int .i64 (dgN s : Nat)) ∧ w = w' := run_any digB 25 s w hs enters25 xDigit_any
theorem runN_any (s : Str) (w : World) (hs : s.length ≤ 1000000) : Calls Tryz.prog 29 #[tx s, .func (.func 27) #[] #[]] w fun e w' => e = .returned (.int .i64 (idN s : Nat)) ∧ w = w' := run_any nameCh 27 s w hs enters27 xName_any
theorem has_head (s : Str) (c : UInt8) : Lib.hasPrefix s [c] = decide (s.head? = some c) := by
  unfold Lib.hasPrefix
  cases s with
  | nil => rfl
  | cons a r =>
    rw [Bool.eq_iff_iff]
    simp [List.isPrefixOf]
    exact eq_comm
theorem hasPrefix_any (s : Str) (c : UInt8) (w : World) : Calls Tryz.prog 48 #[tx s, .string ⟨#[c]⟩] w fun e w' => e = .returned (.bool (decide (s.head? = some c))) ∧ w = w' := by
  refine (Tryz.x_strings_HasPrefix ⟨s.toArray⟩ ⟨#[c]⟩ w).mono ?_
  rintro e w' ⟨rfl, rfl⟩
  refine ⟨?_, rfl⟩
  show Ending.returned (.bool (Lib.hasPrefix s [c])) = _
  rw [has_head]
theorem decimals_any (s : Str) (w : World) (hs : s.length ≤ 1000000) : Calls Tryz.prog 51 #[tx s] w fun e w' => e = .returned (.int .i64 (decN s : Nat)) ∧ w = w' := by
  have hp := fun W => hasPrefix_any s 46 W
  by_cases h : s.head? = some 46
  · have hl : 1 ≤ s.length := by
      cases s with
      | nil => cases h
      | cons c r => simp
    have ht : s.tail.length ≤ 1000000 := by simp; omega
    have hr := fun W => runD_any s.tail W ht
    have hex : (⟨s.toArray⟩ : ByteArray).extract 1 s.length = ⟨s.tail.toArray⟩ := by rw [ex_tail, List.drop_one]
    have hl' : (1 : Int) ≤ s.length := by omega
    rw [decide_eq_true h] at hp
    have hd := dgN_le s.tail
    by_cases h0 : dgN s.tail = 0
    · have HD : Hid (decN s = 0) := by show _ = _; unfold decN; rw [if_pos h, if_pos h0]
      have h0' : ((dgN s.tail : Int) == 0) = true := by rw [h0]; rfl
      clear h0 h hd
      generalize dgN s.tail = k at *
      go_enter Tryz.func51, Tryz.ntmps51
      go_wp2_with fail
      refine (hp _).mono ?_
      rintro e w1 ⟨rfl, rfl⟩
      go_wp2_with fail
      refine (hr _).mono ?_
      rintro e w1 ⟨rfl, rfl⟩
      go_wp2
      go_ret
      exact ⟨by rw [HD.out]; rfl, rfl⟩
    · have HD : Hid (decN s = 1 + dgN s.tail) := by show _ = _; unfold decN; rw [if_pos h, if_neg h0]
      have h0' : ((dgN s.tail : Int) == 0) = false := by rw [beq_eq_false_iff_ne]; omega
      clear h0 h
      generalize dgN s.tail = k at *
      go_enter Tryz.func51, Tryz.ntmps51
      go_wp2_with fail
      refine (hp _).mono ?_
      rintro e w1 ⟨rfl, rfl⟩
      go_wp2_with fail
      refine (hr _).mono ?_
      rintro e w1 ⟨rfl, rfl⟩
      go_wp2
      go_ret
      exact ⟨by rw [HD.out]; go_num, rfl⟩
  · have HD : Hid (decN s = 0) := by show _ = _; unfold decN; rw [if_neg h]
    rw [decide_eq_false h] at hp
    clear h
    go_enter Tryz.func51, Tryz.ntmps51
    go_wp2_with fail
    refine (hp _).mono ?_
    rintro e w1 ⟨rfl, rfl⟩
    go_wp2
    go_ret
    exact ⟨by rw [HD.out]; rfl, rfl⟩
/-- What a reader of one token answers: the token and its length; nothing and 0 of none. -/
abbrev rt (o : Option (Tk × Nat)) : Value := .tuple #[tv (o.getD (tk0, 0)).1, .int .i64 ((o.getD (tk0, 0)).2 : Nat)]
theorem identifier_any (s : Str) (w : World) (hs : s.length ≤ 1000000) : Calls Tryz.prog 28 #[tx s] w fun e w' => e = .returned (rt (tkId s)) ∧ Below w.heap.size w w' := by
  have hn := fun W => name_any s W (by omega)
  have hb0 : Below w.heap.size w (w.alloc (.cells #[.int .i64 0, .int .i64 0, .string ⟨#[]⟩, .bool false, .int .i64 0, .int .i64 0] 36)) := bal (Below.refl _ _) _
  cases h : fName s with
  | true =>
    rw [h] at hn
    have HR : Hid (tkId s = some (tIdent s, s.length)) := by show _ = _; unfold tkId; rw [if_pos h]
    clear h
    go_enter Tryz.func28, Tryz.ntmps28
    go_wp2_with fail
    refine (hn _).mono ?_
    rintro e w1 ⟨rfl, rfl⟩
    go_wp2
    exact bodyPost_ret (v := .tuple #[.agg #[.int .i64 1, .int .i64 0, tx s, .bool false, .int .i64 0, .int .i64 0], .int .i64 s.length]) (by simp [results, Tryz.results28, go_sem]) rfl ⟨by rw [HR.out]; rfl, bal (Below.refl _ _) _⟩
  | false =>
    rw [h] at hn
    have HR : Hid (tkId s = none) := by show _ = _; unfold tkId; rw [if_neg (by simp [h])]
    clear h
    go_enter Tryz.func28, Tryz.ntmps28
    go_wp2_with fail
    refine (hn _).mono ?_
    rintro e w1 ⟨rfl, rfl⟩
    go_wp2
    exact bodyPost_ret (v := .tuple #[.agg #[.int .i64 0, .int .i64 0, .string ⟨#[]⟩, .bool false, .int .i64 0, .int .i64 0], .int .i64 0]) (by simp [results, Tryz.results28, go_sem]) rfl ⟨by rw [HR.out]; rfl, bal (Below.refl _ _) _⟩
end Go.Proofs.YtajbjbnfklllkaaGreatDoor
