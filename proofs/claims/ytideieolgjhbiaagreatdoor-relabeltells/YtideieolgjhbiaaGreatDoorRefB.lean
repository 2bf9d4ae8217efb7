/- The reference's Value, Get, Quote, ident. -/
import Derived.Test.YtideieolgjhbiaaGreatDoorRefA
namespace Go.Proofs.YtideieolgjhbiaaGreatDoor
open Go.RowKit

def rVal (s : Str) : Bool := !s.contains 10 && decide (s.length ≤ 30)
theorem rVal_hit {s : Str} {k : Nat} (hk : k < s.length) (h : s[k].toNat = 10) : rVal s = false := by
  unfold rVal
  have e : s[k] = 10 := UInt8.toNat_inj.1 h
  have : s.contains 10 = true := by
    rw [List.contains_iff_mem, ← e]
    exact List.getElem_mem hk
  rw [this]
  rfl
theorem rVal_all {s : Str} {k : Nat} (hk : s.length ≤ k) (h : ∀ i (hi : i < s.length), i < k → s[i].toNat ≠ 10) : rVal s = decide (s.length ≤ 30) := by
  unfold rVal
  have : s.contains 10 = false := by
    rw [← Bool.not_eq_true, List.contains_iff_mem]
    intro hm
    obtain ⟨i, hi, e⟩ := List.mem_iff_getElem.1 hm
    exact h i hi (by omega) (by rw [e]; rfl)
  rw [this]
  rfl
set_option maxHeartbeats 1000000 in
theorem refValue_any (l : Str) (w : World) (hl : l.length ≤ 9223372036854775807) :
    Calls Tryz.prog 31 #[.string ⟨l.toArray⟩] w fun e w' => e = .returned (.bool (rVal l)) ∧ w = w' := by
  go_enter Tryz.func31, Tryz.ntmps31
  go_wp2_with fail
  go_loop [3] (fun i => ∃ k : Nat, k ≤ l.length ∧ i = .int .i64 k ∧ Hid (∀ i (hi : i < l.length), i < k → l[i].toNat ≠ 10)) (fun i => l.length - (intOf i).toNat)
  case atStart => exact ⟨0, by omega, rfl, fun i h h2 => by omega⟩
  case round =>
    obtain ⟨k, hk, rfl, ha⟩ := hrel
    by_cases hlt : k < l.length
    · have hbk := ba_lt hlt
      have HC : Hid (l[k] = (⟨l.toArray⟩ : ByteArray)[k]'hbk) := rfl
      by_cases hc : ((⟨l.toArray⟩ : ByteArray)[k]'hbk).toNat = 10
      · have HR : Hid (rVal l = false) := rVal_hit hlt (by rw [HC.out]; exact hc)
        have hc' : ((((⟨l.toArray⟩ : ByteArray)[k]'hbk).toNat : Int) == 10) = true := by rw [beq_iff_eq]; omega
        clear hc ha HC
        go_wp2
        go_ret
        exact ⟨by rw [HR.out]; rfl, rfl⟩
      · have HR : Hid (∀ i (hi : i < l.length), i < k + 1 → l[i].toNat ≠ 10) := fun i hi h => by
          by_cases e : i = k
          · subst e; rw [HC.out]; exact hc
          · exact ha.out i hi (by omega)
        have hc' : ((((⟨l.toArray⟩ : ByteArray)[k]'hbk).toNat : Int) == 10) = false := by rw [beq_eq_false_iff_ne]; omega
        clear hc ha HC
        go_wp2
        go_round
        case rel => exact ⟨k + 1, by omega, by go_num, HR⟩
        case measure => simp [intOf]; omega
    · have HR : Hid (rVal l = decide (l.length ≤ 30)) := rVal_all (by omega) ha.out
      clear ha
      by_cases g : l.length ≤ 30
      · have g' : (l.length : Int) ≤ 30 := by omega
        have HG : Hid (rVal l = true) := by show _ = _; rw [HR.out]; simp [g]
        clear g HR
        go_wp2_with fail
        go_ret
        exact ⟨by rw [HG.out]; rfl, rfl⟩
      · have g' : ¬ (l.length : Int) ≤ 30 := by omega
        have HG : Hid (rVal l = false) := by show _ = _; rw [HR.out]; simp [g]
        clear g HR
        go_wp2_with fail
        go_ret
        exact ⟨by rw [HG.out]; rfl, rfl⟩

theorem getD_drop {l : List Pr} {j : Nat} (h : j < l.length) : l.drop j = l.getD j ([], []) :: l.drop (j + 1) := by
  rw [getD_at h]
  exact List.drop_eq_getElem_cons h
set_option maxHeartbeats 1000000 in
theorem refGet_any (xa : Option Addr) (n c : Nat) (l : List Pr) (s : Str) (w : World) (hn : n ≤ 9223372036854775807) (hx : Ps w xa n l) :
    Calls Tryz.prog 24 #[.slice xa n c, tx s] w fun e w' => e = .returned (tx (fGet l s)) ∧ w = w' := by
  have HL : Hid (l.length = n) := hx.1
  obtain ⟨_, hcell⟩ := hx
  go_enter Tryz.func24, Tryz.ntmps24
  go_wp2_with fail
  go_loop [5] (fun i => ∃ j : Nat, j ≤ n ∧ i = .int .i64 j ∧ Hid (fGet l s = fGet (l.drop j) s)) (fun i => n - (intOf i).toNat)
  case atStart => exact ⟨0, by omega, rfl, rfl⟩
  case round =>
    obtain ⟨j, hj, rfl, HG⟩ := hrel
    by_cases hlt : j < n
    · obtain ⟨b1, o1, rfl, h1⟩ := hcell (by omega)
      obtain ⟨c10, c11⟩ := h1 j hlt
      have HD : Hid (fGet l s = if (l.getD j ([], [])).1 = s then (l.getD j ([], [])).2 else fGet (l.drop (j + 1)) s) := by
        show _ = _
        rw [HG.out, getD_drop (by rw [HL.out]; exact hlt), get_cons]
      clear h1 hcell HG
      generalize l.getD j ([], []) = p at *
      obtain ⟨p1, p2⟩ := p
      dsimp only at *
      by_cases hp : p1 = s
      · have HR : Hid (fGet l s = p2) := by show _ = _; rw [HD.out, if_pos hp]
        have hp' : (p1 == s) = true := by simpa using hp
        clear hp HD
        go_wp2
        go_ret
        exact ⟨by rw [HR.out]; rfl, rfl⟩
      · have HR : Hid (fGet l s = fGet (l.drop (j + 1)) s) := by show _ = _; rw [HD.out, if_neg hp]
        have hp' : (p1 == s) = false := by simpa using hp
        clear hp HD
        go_wp2
        go_round
        case rel => exact ⟨j + 1, by omega, by go_num, HR⟩
        case measure => simp [intOf]; omega
    · have HR : Hid (fGet l s = []) := by show _ = _; rw [HG.out, List.drop_of_length_le (by rw [HL.out]; omega)]; rfl
      clear HG
      go_wp2_with fail
      go_ret
      exact ⟨by rw [HR.out]; rfl, rfl⟩
end Go.Proofs.YtideieolgjhbiaaGreatDoor
