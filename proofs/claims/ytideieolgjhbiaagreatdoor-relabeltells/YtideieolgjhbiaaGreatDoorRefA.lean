/- The reference's Name and Value: as the program's. -/
import Derived.Test.YtideieolgjhbiaaGreatDoorRuleB
namespace Go.Proofs.YtideieolgjhbiaaGreatDoor
open Go.RowKit

/-- May the byte at place k stand in a name? -/
def chAt (c : UInt8) (k : Nat) : Bool := letB c || decide (c.toNat = 95) || (decide (0 < k) && digB c)
theorem chAt_pos {c : UInt8} {k : Nat} (h : 0 < k) : chAt c k = nameCh c := by
  unfold chAt nameCh
  simp [h]
  cases letB c <;> cases digB c <;> simp
theorem chAt_zero (c : UInt8) : chAt c 0 = (nameCh c && !digB c) := by
  unfold chAt nameCh letB digB
  rw [Bool.eq_iff_iff]
  simp
  omega
def refCh (s : Str) : Bool := (List.range s.length).all fun k => chAt (s.getD k 0) k
theorem refName_eq (s : Str) : fName s = (refCh s && decide (1 ≤ s.length) && decide (s.length ≤ 20)) := by
  unfold fName refCh
  cases s with
  | nil => rfl
  | cons c r =>
    have e : ((List.range (c :: r).length).all fun k => chAt ((c :: r).getD k 0) k) = (!digB c && (c :: r).all nameCh) := by
      rw [List.length_cons, List.range_succ_eq_map, List.all_cons, List.all_map]
      have e2 : (List.range r.length).all ((fun k => chAt ((c :: r).getD k 0) k) ∘ Nat.succ) = r.all nameCh := by
        have : (fun k => chAt ((c :: r).getD k 0) k) ∘ Nat.succ = fun k => nameCh (r.getD k 0) := by
          funext k
          show chAt ((c :: r).getD (k + 1) 0) (k + 1) = _
          rw [chAt_pos (Nat.succ_pos _)]
          rfl
        rw [this]
        clear this
        induction r with
        | nil => rfl
        | cons d r ih =>
          rw [List.length_cons, List.range_succ_eq_map, List.all_cons, List.all_map, List.all_cons]
          congr 1
      rw [e2]
      show (chAt c 0 && _) = _
      rw [chAt_zero, List.all_cons]
      cases nameCh c <;> cases digB c <;> simp
    rw [e]
    show (_ && _ && !digB c && _) = _
    cases digB c <;> cases (c :: r).all nameCh <;> simp
theorem refCh_no {s : Str} {k : Nat} (hk : k < s.length) (h : chAt s[k] k = false) : refCh s = false := by
  unfold refCh
  rw [List.all_eq_false]
  exact ⟨k, by simpa using hk, by simp [hk, h]⟩
def refUp (s : Str) (k : Nat) : Prop := ∀ i (h : i < s.length), i < k → chAt s[i] i = true
theorem refUp_all {s : Str} {k : Nat} (hk : s.length ≤ k) (h : refUp s k) : refCh s = true := by
  unfold refCh
  rw [List.all_eq_true]
  intro i hi
  have hi' : i < s.length := by simpa using hi
  have := h i hi' (by omega)
  simpa [hi'] using this
theorem refUp_step {s : Str} {k : Nat} (hk : k < s.length) (h : refUp s k) (hc : chAt s[k] k = true) : refUp s (k + 1) := fun i hi hlt => by
  by_cases e : i = k
  · subst e; exact hc
  · exact h i hi (by omega)

set_option maxRecDepth 100000 in
set_option maxHeartbeats 2000000 in
theorem refName_any (l : Str) (w : World) (hl : l.length ≤ 9223372036854775807) :
    Calls Tryz.prog 30 #[.string ⟨l.toArray⟩] w fun e w' => e = .returned (.bool (fName l)) ∧ w = w' := by
  have HE : Hid _ := refName_eq l
  go_enter Tryz.func30, Tryz.ntmps30
  go_wp2_with fail
  go_loop [3] (fun i => ∃ k : Nat, k ≤ l.length ∧ i = .int .i64 k ∧ Hid (refUp l k)) (fun i => l.length - (intOf i).toNat)
  case atStart => exact ⟨0, by omega, rfl, fun i h h2 => by omega⟩
  case round =>
    obtain ⟨k, hk, rfl, ha⟩ := hrel
    by_cases hlt : k < l.length
    · have hbk := ba_lt hlt
      have HC : Hid (l[k] = (⟨l.toArray⟩ : ByteArray)[k]'hbk) := rfl
      have HN : Hid (chAt l[k] k = false → fName l = false) := fun h => by rw [HE.out, refCh_no hlt h]; rfl
      have HY : Hid (chAt l[k] k = true → refUp l (k + 1)) := fun h => refUp_step hlt ha.out h
      rw [HC.out] at HN HY
      clear HC ha HE
      have hcases : ∀ d : Nat, d ≤ 47 ∨ (48 ≤ d ∧ d ≤ 57) ∨ (58 ≤ d ∧ d ≤ 64) ∨ (65 ≤ d ∧ d ≤ 90) ∨ (91 ≤ d ∧ d ≤ 94) ∨ d = 95 ∨ d = 96 ∨ (97 ≤ d ∧ d ≤ 122) ∨ 123 ≤ d := fun d => by omega
      rcases hcases ((⟨l.toArray⟩ : ByteArray)[k]'hbk).toNat with hd | hd | hd | hd | hd | hd | hd | hd | hd
      · have f1 : ¬ (97 : Int) ≤ (((⟨l.toArray⟩ : ByteArray)[k]'hbk).toNat : Int) := by omega
        have f2 : (((⟨l.toArray⟩ : ByteArray)[k]'hbk).toNat : Int) ≤ 122 := by omega
        have f3 : ¬ (65 : Int) ≤ (((⟨l.toArray⟩ : ByteArray)[k]'hbk).toNat : Int) := by omega
        have f4 : (((⟨l.toArray⟩ : ByteArray)[k]'hbk).toNat : Int) ≤ 90 := by omega
        have f6 : ¬ (48 : Int) ≤ (((⟨l.toArray⟩ : ByteArray)[k]'hbk).toNat : Int) := by omega
        have f7 : (((⟨l.toArray⟩ : ByteArray)[k]'hbk).toNat : Int) ≤ 57 := by omega
        have f5 : ((((⟨l.toArray⟩ : ByteArray)[k]'hbk).toNat : Int) == 95) = false := by rw [beq_eq_false_iff_ne]; omega
        by_cases hk0 : 0 < k
        · have hk1 : (0 : Int) < k := by omega
          have HV : Hid (chAt ((⟨l.toArray⟩ : ByteArray)[k]'hbk) k = false) := by show _ = _; rw [← Bool.not_eq_true]; simp only [chAt, letB, digB, Bool.or_eq_true, Bool.and_eq_true, decide_eq_true_eq]; omega
          have HU : Hid (fName l = false) := HN.out HV.out
          clear HV HN HY hd hcases
          go_wp2
          go_ret
          exact ⟨by rw [HU.out]; rfl, rfl⟩
        · have hk1 : ¬ (0 : Int) < k := by omega
          have HV : Hid (chAt ((⟨l.toArray⟩ : ByteArray)[k]'hbk) k = false) := by show _ = _; rw [← Bool.not_eq_true]; simp only [chAt, letB, digB, Bool.or_eq_true, Bool.and_eq_true, decide_eq_true_eq]; omega
          have HU : Hid (fName l = false) := HN.out HV.out
          clear HV HN HY hd hcases
          go_wp2
          go_ret
          exact ⟨by rw [HU.out]; rfl, rfl⟩
      · have f1 : ¬ (97 : Int) ≤ (((⟨l.toArray⟩ : ByteArray)[k]'hbk).toNat : Int) := by omega
        have f2 : (((⟨l.toArray⟩ : ByteArray)[k]'hbk).toNat : Int) ≤ 122 := by omega
        have f3 : ¬ (65 : Int) ≤ (((⟨l.toArray⟩ : ByteArray)[k]'hbk).toNat : Int) := by omega
        have f4 : (((⟨l.toArray⟩ : ByteArray)[k]'hbk).toNat : Int) ≤ 90 := by omega
        have f6 : (48 : Int) ≤ (((⟨l.toArray⟩ : ByteArray)[k]'hbk).toNat : Int) := by omega
        have f7 : (((⟨l.toArray⟩ : ByteArray)[k]'hbk).toNat : Int) ≤ 57 := by omega
        have f5 : ((((⟨l.toArray⟩ : ByteArray)[k]'hbk).toNat : Int) == 95) = false := by rw [beq_eq_false_iff_ne]; omega
        by_cases hk0 : 0 < k
        · have hk1 : (0 : Int) < k := by omega
          have HV : Hid (chAt ((⟨l.toArray⟩ : ByteArray)[k]'hbk) k = true) := by show _ = _; simp only [chAt, letB, digB, Bool.or_eq_true, Bool.and_eq_true, decide_eq_true_eq]; omega
          have HU : Hid (refUp l (k + 1)) := HY.out HV.out
          clear HV HN HY hd hcases
          go_wp2
          go_round
          case rel => exact ⟨k + 1, by omega, by go_num, HU⟩
          case measure => simp [intOf]; omega
        · have hk1 : ¬ (0 : Int) < k := by omega
          have HV : Hid (chAt ((⟨l.toArray⟩ : ByteArray)[k]'hbk) k = false) := by show _ = _; rw [← Bool.not_eq_true]; simp only [chAt, letB, digB, Bool.or_eq_true, Bool.and_eq_true, decide_eq_true_eq]; omega
          have HU : Hid (fName l = false) := HN.out HV.out
          clear HV HN HY hd hcases
          go_wp2
          go_ret
          exact ⟨by rw [HU.out]; rfl, rfl⟩
      · have f1 : ¬ (97 : Int) ≤ (((⟨l.toArray⟩ : ByteArray)[k]'hbk).toNat : Int) := by omega
        have f2 : (((⟨l.toArray⟩ : ByteArray)[k]'hbk).toNat : Int) ≤ 122 := by omega
        have f3 : ¬ (65 : Int) ≤ (((⟨l.toArray⟩ : ByteArray)[k]'hbk).toNat : Int) := by omega
        have f4 : (((⟨l.toArray⟩ : ByteArray)[k]'hbk).toNat : Int) ≤ 90 := by omega
        have f6 : (48 : Int) ≤ (((⟨l.toArray⟩ : ByteArray)[k]'hbk).toNat : Int) := by omega
        have f7 : ¬ (((⟨l.toArray⟩ : ByteArray)[k]'hbk).toNat : Int) ≤ 57 := by omega
        have f5 : ((((⟨l.toArray⟩ : ByteArray)[k]'hbk).toNat : Int) == 95) = false := by rw [beq_eq_false_iff_ne]; omega
        by_cases hk0 : 0 < k
        · have hk1 : (0 : Int) < k := by omega
          have HV : Hid (chAt ((⟨l.toArray⟩ : ByteArray)[k]'hbk) k = false) := by show _ = _; rw [← Bool.not_eq_true]; simp only [chAt, letB, digB, Bool.or_eq_true, Bool.and_eq_true, decide_eq_true_eq]; omega
          have HU : Hid (fName l = false) := HN.out HV.out
          clear HV HN HY hd hcases
          go_wp2
          go_ret
          exact ⟨by rw [HU.out]; rfl, rfl⟩
        · have hk1 : ¬ (0 : Int) < k := by omega
          have HV : Hid (chAt ((⟨l.toArray⟩ : ByteArray)[k]'hbk) k = false) := by show _ = _; rw [← Bool.not_eq_true]; simp only [chAt, letB, digB, Bool.or_eq_true, Bool.and_eq_true, decide_eq_true_eq]; omega
          have HU : Hid (fName l = false) := HN.out HV.out
          clear HV HN HY hd hcases
          go_wp2
          go_ret
          exact ⟨by rw [HU.out]; rfl, rfl⟩
      · have f1 : ¬ (97 : Int) ≤ (((⟨l.toArray⟩ : ByteArray)[k]'hbk).toNat : Int) := by omega
        have f2 : (((⟨l.toArray⟩ : ByteArray)[k]'hbk).toNat : Int) ≤ 122 := by omega
        have f3 : (65 : Int) ≤ (((⟨l.toArray⟩ : ByteArray)[k]'hbk).toNat : Int) := by omega
        have f4 : (((⟨l.toArray⟩ : ByteArray)[k]'hbk).toNat : Int) ≤ 90 := by omega
        have f6 : (48 : Int) ≤ (((⟨l.toArray⟩ : ByteArray)[k]'hbk).toNat : Int) := by omega
        have f7 : ¬ (((⟨l.toArray⟩ : ByteArray)[k]'hbk).toNat : Int) ≤ 57 := by omega
        have f5 : ((((⟨l.toArray⟩ : ByteArray)[k]'hbk).toNat : Int) == 95) = false := by rw [beq_eq_false_iff_ne]; omega
        have HV : Hid (chAt ((⟨l.toArray⟩ : ByteArray)[k]'hbk) k = true) := by show _ = _; simp only [chAt, letB, digB, Bool.or_eq_true, Bool.and_eq_true, decide_eq_true_eq]; omega
        have HU : Hid (refUp l (k + 1)) := HY.out HV.out
        clear HV HN HY hd hcases
        go_wp2
        go_round
        case rel => exact ⟨k + 1, by omega, by go_num, HU⟩
        case measure => simp [intOf]; omega
      · have f1 : ¬ (97 : Int) ≤ (((⟨l.toArray⟩ : ByteArray)[k]'hbk).toNat : Int) := by omega
        have f2 : (((⟨l.toArray⟩ : ByteArray)[k]'hbk).toNat : Int) ≤ 122 := by omega
        have f3 : (65 : Int) ≤ (((⟨l.toArray⟩ : ByteArray)[k]'hbk).toNat : Int) := by omega
        have f4 : ¬ (((⟨l.toArray⟩ : ByteArray)[k]'hbk).toNat : Int) ≤ 90 := by omega
        have f6 : (48 : Int) ≤ (((⟨l.toArray⟩ : ByteArray)[k]'hbk).toNat : Int) := by omega
        have f7 : ¬ (((⟨l.toArray⟩ : ByteArray)[k]'hbk).toNat : Int) ≤ 57 := by omega
        have f5 : ((((⟨l.toArray⟩ : ByteArray)[k]'hbk).toNat : Int) == 95) = false := by rw [beq_eq_false_iff_ne]; omega
        by_cases hk0 : 0 < k
        · have hk1 : (0 : Int) < k := by omega
          have HV : Hid (chAt ((⟨l.toArray⟩ : ByteArray)[k]'hbk) k = false) := by show _ = _; rw [← Bool.not_eq_true]; simp only [chAt, letB, digB, Bool.or_eq_true, Bool.and_eq_true, decide_eq_true_eq]; omega
          have HU : Hid (fName l = false) := HN.out HV.out
          clear HV HN HY hd hcases
          go_wp2
          go_ret
          exact ⟨by rw [HU.out]; rfl, rfl⟩
        · have hk1 : ¬ (0 : Int) < k := by omega
          have HV : Hid (chAt ((⟨l.toArray⟩ : ByteArray)[k]'hbk) k = false) := by show _ = _; rw [← Bool.not_eq_true]; simp only [chAt, letB, digB, Bool.or_eq_true, Bool.and_eq_true, decide_eq_true_eq]; omega
          have HU : Hid (fName l = false) := HN.out HV.out
          clear HV HN HY hd hcases
          go_wp2
          go_ret
          exact ⟨by rw [HU.out]; rfl, rfl⟩
      · have f1 : ¬ (97 : Int) ≤ (((⟨l.toArray⟩ : ByteArray)[k]'hbk).toNat : Int) := by omega
        have f2 : (((⟨l.toArray⟩ : ByteArray)[k]'hbk).toNat : Int) ≤ 122 := by omega
        have f3 : (65 : Int) ≤ (((⟨l.toArray⟩ : ByteArray)[k]'hbk).toNat : Int) := by omega
        have f4 : ¬ (((⟨l.toArray⟩ : ByteArray)[k]'hbk).toNat : Int) ≤ 90 := by omega
        have f6 : (48 : Int) ≤ (((⟨l.toArray⟩ : ByteArray)[k]'hbk).toNat : Int) := by omega
        have f7 : ¬ (((⟨l.toArray⟩ : ByteArray)[k]'hbk).toNat : Int) ≤ 57 := by omega
        have f5 : ((((⟨l.toArray⟩ : ByteArray)[k]'hbk).toNat : Int) == 95) = true := by rw [beq_iff_eq]; omega
        have HV : Hid (chAt ((⟨l.toArray⟩ : ByteArray)[k]'hbk) k = true) := by show _ = _; simp only [chAt, letB, digB, Bool.or_eq_true, Bool.and_eq_true, decide_eq_true_eq]; omega
        have HU : Hid (refUp l (k + 1)) := HY.out HV.out
        clear HV HN HY hd hcases
        go_wp2
        go_round
        case rel => exact ⟨k + 1, by omega, by go_num, HU⟩
        case measure => simp [intOf]; omega
      · have f1 : ¬ (97 : Int) ≤ (((⟨l.toArray⟩ : ByteArray)[k]'hbk).toNat : Int) := by omega
        have f2 : (((⟨l.toArray⟩ : ByteArray)[k]'hbk).toNat : Int) ≤ 122 := by omega
        have f3 : (65 : Int) ≤ (((⟨l.toArray⟩ : ByteArray)[k]'hbk).toNat : Int) := by omega
        have f4 : ¬ (((⟨l.toArray⟩ : ByteArray)[k]'hbk).toNat : Int) ≤ 90 := by omega
        have f6 : (48 : Int) ≤ (((⟨l.toArray⟩ : ByteArray)[k]'hbk).toNat : Int) := by omega
        have f7 : ¬ (((⟨l.toArray⟩ : ByteArray)[k]'hbk).toNat : Int) ≤ 57 := by omega
        have f5 : ((((⟨l.toArray⟩ : ByteArray)[k]'hbk).toNat : Int) == 95) = false := by rw [beq_eq_false_iff_ne]; omega
        by_cases hk0 : 0 < k
        · have hk1 : (0 : Int) < k := by omega
          have HV : Hid (chAt ((⟨l.toArray⟩ : ByteArray)[k]'hbk) k = false) := by show _ = _; rw [← Bool.not_eq_true]; simp only [chAt, letB, digB, Bool.or_eq_true, Bool.and_eq_true, decide_eq_true_eq]; omega
          have HU : Hid (fName l = false) := HN.out HV.out
          clear HV HN HY hd hcases
          go_wp2
          go_ret
          exact ⟨by rw [HU.out]; rfl, rfl⟩
        · have hk1 : ¬ (0 : Int) < k := by omega
          have HV : Hid (chAt ((⟨l.toArray⟩ : ByteArray)[k]'hbk) k = false) := by show _ = _; rw [← Bool.not_eq_true]; simp only [chAt, letB, digB, Bool.or_eq_true, Bool.and_eq_true, decide_eq_true_eq]; omega
          have HU : Hid (fName l = false) := HN.out HV.out
          clear HV HN HY hd hcases
          go_wp2
          go_ret
          exact ⟨by rw [HU.out]; rfl, rfl⟩
      · have f1 : (97 : Int) ≤ (((⟨l.toArray⟩ : ByteArray)[k]'hbk).toNat : Int) := by omega
        have f2 : (((⟨l.toArray⟩ : ByteArray)[k]'hbk).toNat : Int) ≤ 122 := by omega
        have f3 : (65 : Int) ≤ (((⟨l.toArray⟩ : ByteArray)[k]'hbk).toNat : Int) := by omega
        have f4 : ¬ (((⟨l.toArray⟩ : ByteArray)[k]'hbk).toNat : Int) ≤ 90 := by omega
        have f6 : (48 : Int) ≤ (((⟨l.toArray⟩ : ByteArray)[k]'hbk).toNat : Int) := by omega
        have f7 : ¬ (((⟨l.toArray⟩ : ByteArray)[k]'hbk).toNat : Int) ≤ 57 := by omega
        have f5 : ((((⟨l.toArray⟩ : ByteArray)[k]'hbk).toNat : Int) == 95) = false := by rw [beq_eq_false_iff_ne]; omega
        have HV : Hid (chAt ((⟨l.toArray⟩ : ByteArray)[k]'hbk) k = true) := by show _ = _; simp only [chAt, letB, digB, Bool.or_eq_true, Bool.and_eq_true, decide_eq_true_eq]; omega
        have HU : Hid (refUp l (k + 1)) := HY.out HV.out
        clear HV HN HY hd hcases
        go_wp2
        go_round
        case rel => exact ⟨k + 1, by omega, by go_num, HU⟩
        case measure => simp [intOf]; omega
      · have f1 : (97 : Int) ≤ (((⟨l.toArray⟩ : ByteArray)[k]'hbk).toNat : Int) := by omega
        have f2 : ¬ (((⟨l.toArray⟩ : ByteArray)[k]'hbk).toNat : Int) ≤ 122 := by omega
        have f3 : (65 : Int) ≤ (((⟨l.toArray⟩ : ByteArray)[k]'hbk).toNat : Int) := by omega
        have f4 : ¬ (((⟨l.toArray⟩ : ByteArray)[k]'hbk).toNat : Int) ≤ 90 := by omega
        have f6 : (48 : Int) ≤ (((⟨l.toArray⟩ : ByteArray)[k]'hbk).toNat : Int) := by omega
        have f7 : ¬ (((⟨l.toArray⟩ : ByteArray)[k]'hbk).toNat : Int) ≤ 57 := by omega
        have f5 : ((((⟨l.toArray⟩ : ByteArray)[k]'hbk).toNat : Int) == 95) = false := by rw [beq_eq_false_iff_ne]; omega
        by_cases hk0 : 0 < k
        · have hk1 : (0 : Int) < k := by omega
          have HV : Hid (chAt ((⟨l.toArray⟩ : ByteArray)[k]'hbk) k = false) := by show _ = _; rw [← Bool.not_eq_true]; simp only [chAt, letB, digB, Bool.or_eq_true, Bool.and_eq_true, decide_eq_true_eq]; omega
          have HU : Hid (fName l = false) := HN.out HV.out
          clear HV HN HY hd hcases
          go_wp2
          go_ret
          exact ⟨by rw [HU.out]; rfl, rfl⟩
        · have hk1 : ¬ (0 : Int) < k := by omega
          have HV : Hid (chAt ((⟨l.toArray⟩ : ByteArray)[k]'hbk) k = false) := by show _ = _; rw [← Bool.not_eq_true]; simp only [chAt, letB, digB, Bool.or_eq_true, Bool.and_eq_true, decide_eq_true_eq]; omega
          have HU : Hid (fName l = false) := HN.out HV.out
          clear HV HN HY hd hcases
          go_wp2
          go_ret
          exact ⟨by rw [HU.out]; rfl, rfl⟩
    · have HF : Hid (fName l = (decide (1 ≤ l.length) && decide (l.length ≤ 20))) := by show _ = _; rw [HE.out, refUp_all (by omega) ha.out]; simp
      by_cases g1 : 1 ≤ l.length
      · by_cases g2 : l.length ≤ 20
        · have i1 : (1 : Int) ≤ l.length := by omega
          have i2 : (l.length : Int) ≤ 20 := by omega
          have HG : Hid (fName l = true) := by show _ = _; rw [HF.out]; simp [g1, g2]
          clear HF g1 g2
          go_wp2_with fail
          go_ret
          exact ⟨by rw [HG.out]; rfl, rfl⟩
        · have i1 : (1 : Int) ≤ l.length := by omega
          have i2 : ¬ (l.length : Int) ≤ 20 := by omega
          have HG : Hid (fName l = false) := by show _ = _; rw [HF.out]; simp [g2]
          clear HF g1 g2
          go_wp2_with fail
          go_ret
          exact ⟨by rw [HG.out]; rfl, rfl⟩
      · have i1 : ¬ (1 : Int) ≤ l.length := by omega
        have HG : Hid (fName l = false) := by show _ = _; rw [HF.out]; simp [g1]
        clear HF g1
        go_wp2_with fail
        go_ret
        exact ⟨by rw [HG.out]; rfl, rfl⟩
end Go.Proofs.YtideieolgjhbiaaGreatDoor
