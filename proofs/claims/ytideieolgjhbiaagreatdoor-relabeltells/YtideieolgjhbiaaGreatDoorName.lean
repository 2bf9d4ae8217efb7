/- Name: for every text. -/
import Derived.Test.YtideieolgjhbiaaGreatDoorLeaf
namespace Go.Proofs.YtideieolgjhbiaaGreatDoor
open Go.RowKit

theorem all_snoc (l : Str) (c : UInt8) (f : UInt8 → Bool) : (l ++ [c]).all f = (l.all f && f c) := by simp
theorem not_all {l : Str} (k : Nat) (hk : k < l.length) (h : nameCh l[k] = false) : l.all nameCh = false := by
  cases hd : l.all nameCh with
  | false => rfl
  | true => rw [List.all_eq_true.1 hd _ (List.getElem_mem hk)] at h; cases h

set_option maxHeartbeats 1000000 in
theorem name_any (l : Str) (w : World) (hl : l.length ≤ 9223372036854775807) :
    Calls Tryz.prog 35 #[.string ⟨l.toArray⟩] w fun e w' => e = .returned (.bool (fName l)) ∧ w = w' := by
  by_cases h1 : 1 ≤ l.length
  · have h1' : ¬ (l.length : Int) < 1 := by omega
    by_cases h2 : l.length ≤ 20
    · have h2' : ¬ (20 : Int) < l.length := by omega
      have hb0 := ba_lt h1
      have hd0 := fun w => isDigit_any ((⟨l.toArray⟩ : ByteArray)[0]'hb0) w
      have hdh : l.headD 0 = (⟨l.toArray⟩ : ByteArray)[0]'hb0 := by
        cases l with
        | nil => cases h1
        | cons c r => rfl
      have e : fName l = (!digB ((⟨l.toArray⟩ : ByteArray)[0]'hb0) && l.all nameCh) := by simp only [fName, h1, h2, hdh, decide_true, Bool.true_and]
      rw [e]
      have HE : Hid (fName l = (!digB ((⟨l.toArray⟩ : ByteArray)[0]'hb0) && l.all nameCh)) := e
      clear e hdh
      cases hd : digB ((⟨l.toArray⟩ : ByteArray)[0]'hb0) with
      | true =>
        rw [hd] at hd0
        go_enter Tryz.func35, Tryz.ntmps35
        go_wp2_with (go_at_call 48; refine (hd0 _).mono ?_; rintro e w' ⟨rfl, rfl⟩)
        go_ret
        exact ⟨by simp, rfl⟩
      | false =>
        rw [hd] at hd0
        clear hd HE
        go_enter Tryz.func35, Tryz.ntmps35
        go_wp2_with (go_at_call 48; refine (hd0 _).mono ?_; rintro e w' ⟨rfl, rfl⟩)
        go_loop [19] (fun i => ∃ k : Nat, k ≤ l.length ∧ i = .int .i64 k ∧ Hid ((l.take k).all nameCh = true)) (fun i => l.length - (intOf i).toNat)
        case atStart => exact ⟨0, by omega, rfl, rfl⟩
        case round =>
          obtain ⟨k, hk, rfl, ha⟩ := hrel
          by_cases hlt : k < l.length
          · have hbk := ba_lt hlt
            have hdk := fun w => isDigit_any ((⟨l.toArray⟩ : ByteArray)[k]'hbk) w
            have hlk := fun w => isLetter_any ((⟨l.toArray⟩ : ByteArray)[k]'hbk) w
            have HC : Hid (nameCh l[k] = (digB ((⟨l.toArray⟩ : ByteArray)[k]'hbk) || letB ((⟨l.toArray⟩ : ByteArray)[k]'hbk) || decide (((⟨l.toArray⟩ : ByteArray)[k]'hbk).toNat = 95))) := rfl
            have HS : Hid ((l.take (k + 1)).all nameCh = nameCh l[k]) := by
              show _ = _
              rw [take_snocB l k hlt, all_snoc, ha.out, Bool.true_and]
            have HN : Hid (nameCh l[k] = false → l.all nameCh = false) := not_all k hlt
            generalize nameCh l[k] = N at *
            cases hdc : digB ((⟨l.toArray⟩ : ByteArray)[k]'hbk) with
            | true =>
              rw [hdc] at hdk
              have HT : Hid ((l.take (k + 1)).all nameCh = true) := by show _ = _; rw [HS.out, HC.out, hdc]; rfl
              clear hdc
              go_wp2_with (go_at_call 48; refine (hdk _).mono ?_; rintro e w' ⟨rfl, rfl⟩)
              go_round
              case rel => exact ⟨k + 1, by omega, by go_num, HT⟩
              case measure => simp [intOf]; omega
            | false =>
              rw [hdc] at hdk
              cases hlc : letB ((⟨l.toArray⟩ : ByteArray)[k]'hbk) with
              | true =>
                rw [hlc] at hlk
                have HT : Hid ((l.take (k + 1)).all nameCh = true) := by show _ = _; rw [HS.out, HC.out, hdc, hlc]; rfl
                clear hdc hlc
                go_wp2_with (first | (go_at_call 48; refine (hdk _).mono ?_; rintro e w' ⟨rfl, rfl⟩) | (go_at_call 49; refine (hlk _).mono ?_; rintro e w' ⟨rfl, rfl⟩))
                go_round
                case rel => exact ⟨k + 1, by omega, by go_num, HT⟩
                case measure => simp [intOf]; omega
              | false =>
                rw [hlc] at hlk
                by_cases hu : ((⟨l.toArray⟩ : ByteArray)[k]'hbk).toNat = 95
                · have HT : Hid ((l.take (k + 1)).all nameCh = true) := by show _ = _; rw [HS.out, HC.out, hdc, hlc]; simp [hu]
                  clear hdc hlc
                  have hu' : ((((⟨l.toArray⟩ : ByteArray)[k]'hbk).toNat : Int) != 95) = false := by rw [bne_eq_false_iff_eq]; omega
                  clear hu
                  go_wp2_with (first | (go_at_call 48; refine (hdk _).mono ?_; rintro e w' ⟨rfl, rfl⟩) | (go_at_call 49; refine (hlk _).mono ?_; rintro e w' ⟨rfl, rfl⟩))
                  go_round
                  case rel => exact ⟨k + 1, by omega, by go_num, HT⟩
                  case measure => simp [intOf]; omega
                · have HF : Hid (l.all nameCh = false) := HN.out (by rw [HC.out, hdc, hlc]; simp [hu])
                  clear hdc hlc
                  have hu' : ((((⟨l.toArray⟩ : ByteArray)[k]'hbk).toNat : Int) != 95) = true := by rw [bne_iff_ne]; omega
                  clear hu
                  go_wp2_with (first | (go_at_call 48; refine (hdk _).mono ?_; rintro e w' ⟨rfl, rfl⟩) | (go_at_call 49; refine (hlk _).mono ?_; rintro e w' ⟨rfl, rfl⟩))
                  go_ret
                  exact ⟨by rw [HF.out]; rfl, rfl⟩
          · have HF : Hid (l.all nameCh = true) := by
              have := ha.out
              rw [List.take_of_length_le (by omega)] at this
              exact this
            go_wp2_with fail
            go_ret
            exact ⟨by rw [HF.out]; rfl, rfl⟩
    · have h2' : (20 : Int) < l.length := by omega
      have e : fName l = false := by simp [fName, h2]
      rw [e]
      go_enter Tryz.func35, Tryz.ntmps35
      go_wp2_with fail
      go_ret
      exact ⟨rfl, rfl⟩
  · have h1' : (l.length : Int) < 1 := by omega
    have e : fName l = false := by simp [fName, h1]
    rw [e]
    go_enter Tryz.func35, Tryz.ntmps35
    go_wp2_with fail
    go_ret
    exact ⟨rfl, rfl⟩
end Go.Proofs.YtideieolgjhbiaaGreatDoor
