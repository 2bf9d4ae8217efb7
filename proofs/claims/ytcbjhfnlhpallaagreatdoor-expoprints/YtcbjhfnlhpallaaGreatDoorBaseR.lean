/- Label sets by their reference: the texts that the others lean on, in one. -/
import Derived.Test.YtcbjhfnlhpallaaGreatDoorBaseA
/- The reference's Name and Value: as the program's. -/
namespace Go.Proofs.YtcbjhfnlhpallaaGreatDoor
open Go.RowKit

/-- May the byte at place k stand in a name? -/
def chAt (c : UInt8) (k : Nat) : Bool := letB c || decide (c.toNat = 95) || (decide (0 < k) && digB c)
theorem chAt_pos {c : UInt8} {k : Nat} (h : 0 < k) : chAt c k = nameCh c := by
  unfold chAt nameCh
  simp [h]
  cases letB c <;> cases digB c <;> simp
theorem chAt_zero (c : UInt8) : chAt c 0 = (nameCh c && !digB c) := by
  unfold chAt nameCh letB digB
  rw [Bool.eq_iff_iff]
  simp
  omega
def refCh (s : Str) : Bool := (List.range s.length).all fun k => chAt (s.getD k 0) k
theorem refName_eq (s : Str) : fName s = (refCh s && decide (1 ≤ s.length) && decide (s.length ≤ 20)) := by
  unfold fName refCh
  cases s with
  | nil => rfl
  | cons c r =>
    have e : ((List.range (c :: r).length).all fun k => chAt ((c :: r).getD k 0) k) = (!digB c && (c :: r).all nameCh) := by
      rw [List.length_cons, List.range_succ_eq_map, List.all_cons, List.all_map]
      have e2 : (List.range r.length).all ((fun k => chAt ((c :: r).getD k 0) k) ∘ Nat.succ) = r.all nameCh := by
        have : (fun k => chAt ((c :: r).getD k 0) k) ∘ Nat.succ = fun k => nameCh (r.getD k 0) := by
          funext k
          show chAt ((c :: r).getD (k + 1) 0) (k + 1) = _
          rw [chAt_pos (Nat.succ_pos _)]
          rfl
        rw [this]
        clear this
        induction r with
        | nil => rfl
        | cons d r ih =>
          rw [List.length_cons, List.range_succ_eq_map, List.all_cons, List.all_map, List.all_cons]
          congr 1
      rw [e2]
      show (chAt c 0 && _) = _
      rw [chAt_zero, List.all_cons]
      cases nameCh c <;> cases digB c <;> simp
    rw [e]
    show (_ && _ && !digB c && _) = _
    cases digB c <;> cases (c :: r).all nameCh <;> simp
theorem refCh_no {s : Str} {k : Nat} (hk : k < s.length) (h : chAt s[k] k = false) : refCh s = false := by
  unfold refCh
  rw [List.all_eq_false]
  exact ⟨k, by simpa using hk, by simp [hk, h]⟩
def refUp (s : Str) (k : Nat) : Prop := ∀ i (h : i < s.length), i < k → chAt s[i] i = true
theorem refUp_all {s : Str} {k : Nat} (hk : s.length ≤ k) (h : refUp s k) : refCh s = true := by
  unfold refCh
  rw [List.all_eq_true]
  intro i hi
  have hi' : i < s.length := by simpa using hi
  have := h i hi' (by omega)
  simpa [hi'] using this
theorem refUp_step {s : Str} {k : Nat} (hk : k < s.length) (h : refUp s k) (hc : chAt s[k] k = true) : refUp s (k + 1) := fun i hi hlt => by
  by_cases e : i = k
  · subst e; exact hc
  · exact h i hi (by omega)

set_option maxRecDepth 100000 in
set_option maxHeartbeats 2000000 in
theorem refName_any (l : Str) (w : World) (hl : l.length ≤ 9223372036854775807) :
    Calls Tryz.prog 30 #[.string ⟨l.toArray⟩] w fun e w' => e = .returned (.bool (fName l)) ∧ w = w' := by
  have HE : Hid _ := refName_eq l
  go_enter Tryz.func30, Tryz.ntmps30
  go_wp2_with fail
  go_loop [3] (fun i => ∃ k : Nat, k ≤ l.length ∧ i = .int .i64 k ∧ Hid (refUp l k)) (fun i => l.length - (intOf i).toNat)
  case atStart => exact ⟨0, by omega, rfl, fun i h h2 => by omega⟩
  case round =>
    obtain ⟨k, hk, rfl, ha⟩ := hrel
    by_cases hlt : k < l.length
    · have hbk := ba_lt hlt
      have HC : Hid (l[k] = (⟨l.toArray⟩ : ByteArray)[k]'hbk) := rfl
      have HN : Hid (chAt l[k] k = false → fName l = false) := fun h => by rw [HE.out, refCh_no hlt h]; rfl
      have HY : Hid (chAt l[k] k = true → refUp l (k + 1)) := fun h => refUp_step hlt ha.out h
      rw [HC.out] at HN HY
      clear HC ha HE
      have hcases : ∀ d : Nat, d ≤ 47 ∨ (48 ≤ d ∧ d ≤ 57) ∨ (58 ≤ d ∧ d ≤ 64) ∨ (65 ≤ d ∧ d ≤ 90) ∨ (91 ≤ d ∧ d ≤ 94) ∨ d = 95 ∨ d = 96 ∨ (97 ≤ d ∧ d ≤ 122) ∨ 123 ≤ d := fun d => by omega
      rcases hcases ((⟨l.toArray⟩ : ByteArray)[k]'hbk).toNat with hd | hd | hd | hd | hd | hd | hd | hd | hd
      · have f1 : ¬ (97 : Int) ≤ (((⟨l.toArray⟩ : ByteArray)[k]'hbk).toNat : Int) := by omega
        have f2 : (((⟨l.toArray⟩ : ByteArray)[k]'hbk).toNat : Int) ≤ 122 := by omega
        have f3 : ¬ (65 : Int) ≤ (((⟨l.toArray⟩ : ByteArray)[k]'hbk).toNat : Int) := by omega
        have f4 : (((⟨l.toArray⟩ : ByteArray)[k]'hbk).toNat : Int) ≤ 90 := by omega
        have f6 : ¬ (48 : Int) ≤ (((⟨l.toArray⟩ : ByteArray)[k]'hbk).toNat : Int) := by omega
        have f7 : (((⟨l.toArray⟩ : ByteArray)[k]'hbk).toNat : Int) ≤ 57 := by omega
        have f5 : ((((⟨l.toArray⟩ : ByteArray)[k]'hbk).toNat : Int) == 95) = false := by rw [beq_eq_false_iff_ne]; omega
        by_cases hk0 : 0 < k
        · have hk1 : (0 : Int) < k := by omega
          have HV : Hid (chAt ((⟨l.toArray⟩ : ByteArray)[k]'hbk) k = false) := by show _ = _; rw [← Bool.not_eq_true]; simp only [chAt, letB, digB, Bool.or_eq_true, Bool.and_eq_true, decide_eq_true_eq]; omega
          have HU : Hid (fName l = false) := HN.out HV.out
          clear HV HN HY hd hcases
          go_wp2
          go_ret
          exact ⟨by rw [HU.out]; rfl, rfl⟩
        · have hk1 : ¬ (0 : Int) < k := by omega
          have HV : Hid (chAt ((⟨l.toArray⟩ : ByteArray)[k]'hbk) k = false) := by show _ = _; rw [← Bool.not_eq_true]; simp only [chAt, letB, digB, Bool.or_eq_true, Bool.and_eq_true, decide_eq_true_eq]; omega
          have HU : Hid (fName l = false) := HN.out HV.out
          clear HV HN HY hd hcases
          go_wp2
          go_ret
          exact ⟨by rw [HU.out]; rfl, rfl⟩
      · have f1 : ¬ (97 : Int) ≤ (((⟨l.toArray⟩ : ByteArray)[k]'hbk).toNat : Int) := by omega
        have f2 : (((⟨l.toArray⟩ : ByteArray)[k]'hbk).toNat : Int) ≤ 122 := by omega
        have f3 : ¬ (65 : Int) ≤ (((⟨l.toArray⟩ : ByteArray)[k]'hbk).toNat : Int) := by omega
        have f4 : (((⟨l.toArray⟩ : ByteArray)[k]'hbk).toNat : Int) ≤ 90 := by omega
        have f6 : (48 : Int) ≤ (((⟨l.toArray⟩ : ByteArray)[k]'hbk).toNat : Int) := by omega
        have f7 : (((⟨l.toArray⟩ : ByteArray)[k]'hbk).toNat : Int) ≤ 57 := by omega
        have f5 : ((((⟨l.toArray⟩ : ByteArray)[k]'hbk).toNat : Int) == 95) = false := by rw [beq_eq_false_iff_ne]; omega
        by_cases hk0 : 0 < k
        · have hk1 : (0 : Int) < k := by omega
          have HV : Hid (chAt ((⟨l.toArray⟩ : ByteArray)[k]'hbk) k = true) := by show _ = _; simp only [chAt, letB, digB, Bool.or_eq_true, Bool.and_eq_true, decide_eq_true_eq]; omega
          have HU : Hid (refUp l (k + 1)) := HY.out HV.out
          clear HV HN HY hd hcases
          go_wp2
          go_round
          case rel => exact ⟨k + 1, by omega, by go_num, HU⟩
          case measure => simp [intOf]; omega
        · have hk1 : ¬ (0 : Int) < k := by omega
          have HV : Hid (chAt ((⟨l.toArray⟩ : ByteArray)[k]'hbk) k = false) := by show _ = _; rw [← Bool.not_eq_true]; simp only [chAt, letB, digB, Bool.or_eq_true, Bool.and_eq_true, decide_eq_true_eq]; omega
          have HU : Hid (fName l = false) := HN.out HV.out
          clear HV HN HY hd hcases
          go_wp2
          go_ret
          exact ⟨by rw [HU.out]; rfl, rfl⟩
      · have f1 : ¬ (97 : Int) ≤ (((⟨l.toArray⟩ : ByteArray)[k]'hbk).toNat : Int) := by omega
        have f2 : (((⟨l.toArray⟩ : ByteArray)[k]'hbk).toNat : Int) ≤ 122 := by omega
        have f3 : ¬ (65 : Int) ≤ (((⟨l.toArray⟩ : ByteArray)[k]'hbk).toNat : Int) := by omega
        have f4 : (((⟨l.toArray⟩ : ByteArray)[k]'hbk).toNat : Int) ≤ 90 := by omega
        have f6 : (48 : Int) ≤ (((⟨l.toArray⟩ : ByteArray)[k]'hbk).toNat : Int) := by omega
        have f7 : ¬ (((⟨l.toArray⟩ : ByteArray)[k]'hbk).toNat : Int) ≤ 57 := by omega
        have f5 : ((((⟨l.toArray⟩ : ByteArray)[k]'hbk).toNat : Int) == 95) = false := by rw [beq_eq_false_iff_ne]; omega
        by_cases hk0 : 0 < k
        · have hk1 : (0 : Int) < k := by omega
          have HV : Hid (chAt ((⟨l.toArray⟩ : ByteArray)[k]'hbk) k = false) := by show _ = _; rw [← Bool.not_eq_true]; simp only [chAt, letB, digB, Bool.or_eq_true, Bool.and_eq_true, decide_eq_true_eq]; omega
          have HU : Hid (fName l = false) := HN.out HV.out
          clear HV HN HY hd hcases
          go_wp2
          go_ret
          exact ⟨by rw [HU.out]; rfl, rfl⟩
        · have hk1 : ¬ (0 : Int) < k := by omega
          have HV : Hid (chAt ((⟨l.toArray⟩ : ByteArray)[k]'hbk) k = false) := by show _ = _; rw [← Bool.not_eq_true]; simp only [chAt, letB, digB, Bool.or_eq_true, Bool.and_eq_true, decide_eq_true_eq]; omega
          have HU : Hid (fName l = false) := HN.out HV.out
          clear HV HN HY hd hcases
          go_wp2
          go_ret
          exact ⟨by rw [HU.out]; rfl, rfl⟩
      · have f1 : ¬ (97 : Int) ≤ (((⟨l.toArray⟩ : ByteArray)[k]'hbk).toNat : Int) := by omega
        have f2 : (((⟨l.toArray⟩ : ByteArray)[k]'hbk).toNat : Int) ≤ 122 := by omega
        have f3 : (65 : Int) ≤ (((⟨l.toArray⟩ : ByteArray)[k]'hbk).toNat : Int) := by omega
        have f4 : (((⟨l.toArray⟩ : ByteArray)[k]'hbk).toNat : Int) ≤ 90 := by omega
        have f6 : (48 : Int) ≤ (((⟨l.toArray⟩ : ByteArray)[k]'hbk).toNat : Int) := by omega
        have f7 : ¬ (((⟨l.toArray⟩ : ByteArray)[k]'hbk).toNat : Int) ≤ 57 := by omega
        have f5 : ((((⟨l.toArray⟩ : ByteArray)[k]'hbk).toNat : Int) == 95) = false := by rw [beq_eq_false_iff_ne]; omega
        have HV : Hid (chAt ((⟨l.toArray⟩ : ByteArray)[k]'hbk) k = true) := by show _ = _; simp only [chAt, letB, digB, Bool.or_eq_true, Bool.and_eq_true, decide_eq_true_eq]; omega
        have HU : Hid (refUp l (k + 1)) := HY.out HV.out
        clear HV HN HY hd hcases
        go_wp2
        go_round
        case rel => exact ⟨k + 1, by omega, by go_num, HU⟩
        case measure => simp [intOf]; omega
      · have f1 : ¬ (97 : Int) ≤ (((⟨l.toArray⟩ : ByteArray)[k]'hbk).toNat : Int) := by omega
        have f2 : (((⟨l.toArray⟩ : ByteArray)[k]'hbk).toNat : Int) ≤ 122 := by omega
        have f3 : (65 : Int) ≤ (((⟨l.toArray⟩ : ByteArray)[k]'hbk).toNat : Int) := by omega
        have f4 : ¬ (((⟨l.toArray⟩ : ByteArray)[k]'hbk).toNat : Int) ≤ 90 := by omega
        have f6 : (48 : Int) ≤ (((⟨l.toArray⟩ : ByteArray)[k]'hbk).toNat : Int) := by omega
        have f7 : ¬ (((⟨l.toArray⟩ : ByteArray)[k]'hbk).toNat : Int) ≤ 57 := by omega
        have f5 : ((((⟨l.toArray⟩ : ByteArray)[k]'hbk).toNat : Int) == 95) = false := by rw [beq_eq_false_iff_ne]; omega
        by_cases hk0 : 0 < k
        · have hk1 : (0 : Int) < k := by omega
          have HV : Hid (chAt ((⟨l.toArray⟩ : ByteArray)[k]'hbk) k = false) := by show _ = _; rw [← Bool.not_eq_true]; simp only [chAt, letB, digB, Bool.or_eq_true, Bool.and_eq_true, decide_eq_true_eq]; omega
          have HU : Hid (fName l = false) := HN.out HV.out
          clear HV HN HY hd hcases
          go_wp2
          go_ret
          exact ⟨by rw [HU.out]; rfl, rfl⟩
        · have hk1 : ¬ (0 : Int) < k := by omega
          have HV : Hid (chAt ((⟨l.toArray⟩ : ByteArray)[k]'hbk) k = false) := by show _ = _; rw [← Bool.not_eq_true]; simp only [chAt, letB, digB, Bool.or_eq_true, Bool.and_eq_true, decide_eq_true_eq]; omega
          have HU : Hid (fName l = false) := HN.out HV.out
          clear HV HN HY hd hcases
          go_wp2
          go_ret
          exact ⟨by rw [HU.out]; rfl, rfl⟩
      · have f1 : ¬ (97 : Int) ≤ (((⟨l.toArray⟩ : ByteArray)[k]'hbk).toNat : Int) := by omega
        have f2 : (((⟨l.toArray⟩ : ByteArray)[k]'hbk).toNat : Int) ≤ 122 := by omega
        have f3 : (65 : Int) ≤ (((⟨l.toArray⟩ : ByteArray)[k]'hbk).toNat : Int) := by omega
        have f4 : ¬ (((⟨l.toArray⟩ : ByteArray)[k]'hbk).toNat : Int) ≤ 90 := by omega
        have f6 : (48 : Int) ≤ (((⟨l.toArray⟩ : ByteArray)[k]'hbk).toNat : Int) := by omega
        have f7 : ¬ (((⟨l.toArray⟩ : ByteArray)[k]'hbk).toNat : Int) ≤ 57 := by omega
        have f5 : ((((⟨l.toArray⟩ : ByteArray)[k]'hbk).toNat : Int) == 95) = true := by rw [beq_iff_eq]; omega
        have HV : Hid (chAt ((⟨l.toArray⟩ : ByteArray)[k]'hbk) k = true) := by show _ = _; simp only [chAt, letB, digB, Bool.or_eq_true, Bool.and_eq_true, decide_eq_true_eq]; omega
        have HU : Hid (refUp l (k + 1)) := HY.out HV.out
        clear HV HN HY hd hcases
        go_wp2
        go_round
        case rel => exact ⟨k + 1, by omega, by go_num, HU⟩
        case measure => simp [intOf]; omega
      · have f1 : ¬ (97 : Int) ≤ (((⟨l.toArray⟩ : ByteArray)[k]'hbk).toNat : Int) := by omega
        have f2 : (((⟨l.toArray⟩ : ByteArray)[k]'hbk).toNat : Int) ≤ 122 := by omega
        have f3 : (65 : Int) ≤ (((⟨l.toArray⟩ : ByteArray)[k]'hbk).toNat : Int) := by omega
        have f4 : ¬ (((⟨l.toArray⟩ : ByteArray)[k]'hbk).toNat : Int) ≤ 90 := by omega
        have f6 : (48 : Int) ≤ (((⟨l.toArray⟩ : ByteArray)[k]'hbk).toNat : Int) := by omega
        have f7 : ¬ (((⟨l.toArray⟩ : ByteArray)[k]'hbk).toNat : Int) ≤ 57 := by omega
        have f5 : ((((⟨l.toArray⟩ : ByteArray)[k]'hbk).toNat : Int) == 95) = false := by rw [beq_eq_false_iff_ne]; omega
        by_cases hk0 : 0 < k
        · have hk1 : (0 : Int) < k := by omega
          have HV : Hid (chAt ((⟨l.toArray⟩ : ByteArray)[k]'hbk) k = false) := by show _ = _; rw [← Bool.not_eq_true]; simp only [chAt, letB, digB, Bool.or_eq_true, Bool.and_eq_true, decide_eq_true_eq]; omega
          have HU : Hid (fName l = false) := HN.out HV.out
          clear HV HN HY hd hcases
          go_wp2
          go_ret
          exact ⟨by rw [HU.out]; rfl, rfl⟩
        · have hk1 : ¬ (0 : Int) < k := by omega
          have HV : Hid (chAt ((⟨l.toArray⟩ : ByteArray)[k]'hbk) k = false) := by show _ = _; rw [← Bool.not_eq_true]; simp only [chAt, letB, digB, Bool.or_eq_true, Bool.and_eq_true, decide_eq_true_eq]; omega
          have HU : Hid (fName l = false) := HN.out HV.out
          clear HV HN HY hd hcases
          go_wp2
          go_ret
          exact ⟨by rw [HU.out]; rfl, rfl⟩
      · have f1 : (97 : Int) ≤ (((⟨l.toArray⟩ : ByteArray)[k]'hbk).toNat : Int) := by omega
        have f2 : (((⟨l.toArray⟩ : ByteArray)[k]'hbk).toNat : Int) ≤ 122 := by omega
        have f3 : (65 : Int) ≤ (((⟨l.toArray⟩ : ByteArray)[k]'hbk).toNat : Int) := by omega
        have f4 : ¬ (((⟨l.toArray⟩ : ByteArray)[k]'hbk).toNat : Int) ≤ 90 := by omega
        have f6 : (48 : Int) ≤ (((⟨l.toArray⟩ : ByteArray)[k]'hbk).toNat : Int) := by omega
        have f7 : ¬ (((⟨l.toArray⟩ : ByteArray)[k]'hbk).toNat : Int) ≤ 57 := by omega
        have f5 : ((((⟨l.toArray⟩ : ByteArray)[k]'hbk).toNat : Int) == 95) = false := by rw [beq_eq_false_iff_ne]; omega
        have HV : Hid (chAt ((⟨l.toArray⟩ : ByteArray)[k]'hbk) k = true) := by show _ = _; simp only [chAt, letB, digB, Bool.or_eq_true, Bool.and_eq_true, decide_eq_true_eq]; omega
        have HU : Hid (refUp l (k + 1)) := HY.out HV.out
        clear HV HN HY hd hcases
        go_wp2
        go_round
        case rel => exact ⟨k + 1, by omega, by go_num, HU⟩
        case measure => simp [intOf]; omega
      · have f1 : (97 : Int) ≤ (((⟨l.toArray⟩ : ByteArray)[k]'hbk).toNat : Int) := by omega
        have f2 : ¬ (((⟨l.toArray⟩ : ByteArray)[k]'hbk).toNat : Int) ≤ 122 := by omega
        have f3 : (65 : Int) ≤ (((⟨l.toArray⟩ : ByteArray)[k]'hbk).toNat : Int) := by omega
        have f4 : ¬ (((⟨l.toArray⟩ : ByteArray)[k]'hbk).toNat : Int) ≤ 90 := by omega
        have f6 : (48 : Int) ≤ (((⟨l.toArray⟩ : ByteArray)[k]'hbk).toNat : Int) := by omega
        have f7 : ¬ (((⟨l.toArray⟩ : ByteArray)[k]'hbk).toNat : Int) ≤ 57 := by omega
        have f5 : ((((⟨l.toArray⟩ : ByteArray)[k]'hbk).toNat : Int) == 95) = false := by rw [beq_eq_false_iff_ne]; omega
        by_cases hk0 : 0 < k
        · have hk1 : (0 : Int) < k := by omega
          have HV : Hid (chAt ((⟨l.toArray⟩ : ByteArray)[k]'hbk) k = false) := by show _ = _; rw [← Bool.not_eq_true]; simp only [chAt, letB, digB, Bool.or_eq_true, Bool.and_eq_true, decide_eq_true_eq]; omega
          have HU : Hid (fName l = false) := HN.out HV.out
          clear HV HN HY hd hcases
          go_wp2
          go_ret
          exact ⟨by rw [HU.out]; rfl, rfl⟩
        · have hk1 : ¬ (0 : Int) < k := by omega
          have HV : Hid (chAt ((⟨l.toArray⟩ : ByteArray)[k]'hbk) k = false) := by show _ = _; rw [← Bool.not_eq_true]; simp only [chAt, letB, digB, Bool.or_eq_true, Bool.and_eq_true, decide_eq_true_eq]; omega
          have HU : Hid (fName l = false) := HN.out HV.out
          clear HV HN HY hd hcases
          go_wp2
          go_ret
          exact ⟨by rw [HU.out]; rfl, rfl⟩
    · have HF : Hid (fName l = (decide (1 ≤ l.length) && decide (l.length ≤ 20))) := by show _ = _; rw [HE.out, refUp_all (by omega) ha.out]; simp
      by_cases g1 : 1 ≤ l.length
      · by_cases g2 : l.length ≤ 20
        · have i1 : (1 : Int) ≤ l.length := by omega
          have i2 : (l.length : Int) ≤ 20 := by omega
          have HG : Hid (fName l = true) := by show _ = _; rw [HF.out]; simp [g1, g2]
          clear HF g1 g2
          go_wp2_with fail
          go_ret
          exact ⟨by rw [HG.out]; rfl, rfl⟩
        · have i1 : (1 : Int) ≤ l.length := by omega
          have i2 : ¬ (l.length : Int) ≤ 20 := by omega
          have HG : Hid (fName l = false) := by show _ = _; rw [HF.out]; simp [g2]
          clear HF g1 g2
          go_wp2_with fail
          go_ret
          exact ⟨by rw [HG.out]; rfl, rfl⟩
      · have i1 : ¬ (1 : Int) ≤ l.length := by omega
        have HG : Hid (fName l = false) := by show _ = _; rw [HF.out]; simp [g1]
        clear HF g1
        go_wp2_with fail
        go_ret
        exact ⟨by rw [HG.out]; rfl, rfl⟩
end Go.Proofs.YtcbjhfnlhpallaaGreatDoor
/- The reference's Value, Get, Quote, ident. -/
namespace Go.Proofs.YtcbjhfnlhpallaaGreatDoor
open Go.RowKit

def rVal (s : Str) : Bool := !s.contains 10 && decide (s.length ≤ 30)
theorem rVal_hit {s : Str} {k : Nat} (hk : k < s.length) (h : s[k].toNat = 10) : rVal s = false := by
  unfold rVal
  have e : s[k] = 10 := UInt8.toNat_inj.1 h
  have : s.contains 10 = true := by
    rw [List.contains_iff_mem, ← e]
    exact List.getElem_mem hk
  rw [this]
  rfl
theorem rVal_all {s : Str} {k : Nat} (hk : s.length ≤ k) (h : ∀ i (hi : i < s.length), i < k → s[i].toNat ≠ 10) : rVal s = decide (s.length ≤ 30) := by
  unfold rVal
  have : s.contains 10 = false := by
    rw [← Bool.not_eq_true, List.contains_iff_mem]
    intro hm
    obtain ⟨i, hi, e⟩ := List.mem_iff_getElem.1 hm
    exact h i hi (by omega) (by rw [e]; rfl)
  rw [this]
  rfl
set_option maxHeartbeats 1000000 in
theorem refValue_any (l : Str) (w : World) (hl : l.length ≤ 9223372036854775807) :
    Calls Tryz.prog 21 #[.string ⟨l.toArray⟩] w fun e w' => e = .returned (.bool (rVal l)) ∧ w = w' := by
  go_enter Tryz.func21, Tryz.ntmps21
  go_wp2_with fail
  go_loop [3] (fun i => ∃ k : Nat, k ≤ l.length ∧ i = .int .i64 k ∧ Hid (∀ i (hi : i < l.length), i < k → l[i].toNat ≠ 10)) (fun i => l.length - (intOf i).toNat)
  case atStart => exact ⟨0, by omega, rfl, fun i h h2 => by omega⟩
  case round =>
    obtain ⟨k, hk, rfl, ha⟩ := hrel
    by_cases hlt : k < l.length
    · have hbk := ba_lt hlt
      have HC : Hid (l[k] = (⟨l.toArray⟩ : ByteArray)[k]'hbk) := rfl
      by_cases hc : ((⟨l.toArray⟩ : ByteArray)[k]'hbk).toNat = 10
      · have HR : Hid (rVal l = false) := rVal_hit hlt (by rw [HC.out]; exact hc)
        have hc' : ((((⟨l.toArray⟩ : ByteArray)[k]'hbk).toNat : Int) == 10) = true := by rw [beq_iff_eq]; omega
        clear hc ha HC
        go_wp2
        go_ret
        exact ⟨by rw [HR.out]; rfl, rfl⟩
      · have HR : Hid (∀ i (hi : i < l.length), i < k + 1 → l[i].toNat ≠ 10) := fun i hi h => by
          by_cases e : i = k
          · subst e; rw [HC.out]; exact hc
          · exact ha.out i hi (by omega)
        have hc' : ((((⟨l.toArray⟩ : ByteArray)[k]'hbk).toNat : Int) == 10) = false := by rw [beq_eq_false_iff_ne]; omega
        clear hc ha HC
        go_wp2
        go_round
        case rel => exact ⟨k + 1, by omega, by go_num, HR⟩
        case measure => simp [intOf]; omega
    · have HR : Hid (rVal l = decide (l.length ≤ 30)) := rVal_all (by omega) ha.out
      clear ha
      by_cases g : l.length ≤ 30
      · have g' : (l.length : Int) ≤ 30 := by omega
        have HG : Hid (rVal l = true) := by show _ = _; rw [HR.out]; simp [g]
        clear g HR
        go_wp2_with fail
        go_ret
        exact ⟨by rw [HG.out]; rfl, rfl⟩
      · have g' : ¬ (l.length : Int) ≤ 30 := by omega
        have HG : Hid (rVal l = false) := by show _ = _; rw [HR.out]; simp [g]
        clear g HR
        go_wp2_with fail
        go_ret
        exact ⟨by rw [HG.out]; rfl, rfl⟩

theorem getD_drop {l : List Pr} {j : Nat} (h : j < l.length) : l.drop j = l.getD j ([], []) :: l.drop (j + 1) := by
  rw [getD_at h]
  exact List.drop_eq_getElem_cons h
set_option maxHeartbeats 1000000 in
theorem refGet_any (xa : Option Addr) (n c : Nat) (l : List Pr) (s : Str) (w : World) (hn : n ≤ 9223372036854775807) (hx : Ps w xa n l) :
    Calls Tryz.prog 34 #[.slice xa n c, tx s] w fun e w' => e = .returned (tx (fGet l s)) ∧ w = w' := by
  have HL : Hid (l.length = n) := hx.1
  obtain ⟨_, hcell⟩ := hx
  go_enter Tryz.func34, Tryz.ntmps34
  go_wp2_with fail
  go_loop [5] (fun i => ∃ j : Nat, j ≤ n ∧ i = .int .i64 j ∧ Hid (fGet l s = fGet (l.drop j) s)) (fun i => n - (intOf i).toNat)
  case atStart => exact ⟨0, by omega, rfl, rfl⟩
  case round =>
    obtain ⟨j, hj, rfl, HG⟩ := hrel
    by_cases hlt : j < n
    · obtain ⟨b1, o1, rfl, h1⟩ := hcell (by omega)
      obtain ⟨c10, c11⟩ := h1 j hlt
      have HD : Hid (fGet l s = if (l.getD j ([], [])).1 = s then (l.getD j ([], [])).2 else fGet (l.drop (j + 1)) s) := by
        show _ = _
        rw [HG.out, getD_drop (by rw [HL.out]; exact hlt), get_cons]
      clear h1 hcell HG
      generalize l.getD j ([], []) = p at *
      obtain ⟨p1, p2⟩ := p
      dsimp only at *
      by_cases hp : p1 = s
      · have HR : Hid (fGet l s = p2) := by show _ = _; rw [HD.out, if_pos hp]
        have hp' : (p1 == s) = true := by simpa using hp
        clear hp HD
        go_wp2
        go_ret
        exact ⟨by rw [HR.out]; rfl, rfl⟩
      · have HR : Hid (fGet l s = fGet (l.drop (j + 1)) s) := by show _ = _; rw [HD.out, if_neg hp]
        have hp' : (p1 == s) = false := by simpa using hp
        clear hp HD
        go_wp2
        go_round
        case rel => exact ⟨j + 1, by omega, by go_num, HR⟩
        case measure => simp [intOf]; omega
    · have HR : Hid (fGet l s = []) := by show _ = _; rw [HG.out, List.drop_of_length_le (by rw [HL.out]; omega)]; rfl
      clear HG
      go_wp2_with fail
      go_ret
      exact ⟨by rw [HR.out]; rfl, rfl⟩
end Go.Proofs.YtcbjhfnlhpallaaGreatDoor
/- The reference's Quote and ident. -/
namespace Go.Proofs.YtcbjhfnlhpallaaGreatDoor
open Go.RowKit

theorem ex_one (s : Str) (k : Nat) (h : k < s.length) : (⟨s.toArray⟩ : ByteArray).extract k (k + 1) = ⟨[s[k]].toArray⟩ := by
  rw [Lib.extract_eq]
  congr 2
  rw [List.drop_eq_getElem_cons h, Nat.add_sub_cancel_left]
  rfl
theorem esc_take {s : Str} {k : Nat} (h : k < s.length) : esc (s.take (k + 1)) = esc (s.take k) ++ escC s[k] := by
  rw [take_snocB s k h]
  show (s.take k ++ [s[k]]).flatMap escC = (s.take k).flatMap escC ++ escC s[k]
  rw [List.flatMap_append, List.flatMap_singleton]
set_option maxHeartbeats 1000000 in
theorem refQuote_any (s : Str) (w : World) (hl : s.length ≤ 1000) :
    Calls Tryz.prog 22 #[tx s] w fun e w' => e = .returned (tx ([34] ++ esc s ++ [34])) ∧ w = w' := by
  go_enter Tryz.func22, Tryz.ntmps22
  go_wp2_with fail
  go_loop [4, 3] (fun i u => ∃ (k : Nat) (t : Str), k ≤ s.length ∧ i = .int .i64 k ∧ u = tx t ∧ Hid (t = [34] ++ esc (s.take k)) ∧ t.length ≤ 1 + 2 * k) (fun i _ => s.length - (intOf i).toNat)
  case atStart => exact ⟨0, [34], by omega, rfl, rfl, rfl, by simp⟩
  case round =>
    obtain ⟨k, t, hk, rfl, rfl, HT, ht⟩ := hrel
    by_cases hlt : k < s.length
    · have hbk := ba_lt hlt
      have HC : Hid (s[k] = (⟨s.toArray⟩ : ByteArray)[k]'hbk) := rfl
      have hex := ex_one s k hlt
      have HE : Hid _ := esc_take hlt
      have hwr : IntKind.i64.wrap ((k : Int) + 1) = (k : Int) + 1 := by rw [IntKind.wrap_i64]; omega
      have hi1 : (k : Int) + 1 ≤ s.length := by omega
      have hi2 : ¬ ((k : Int) + 1 < 0) := by omega
      have hi3 : ((k : Int) + 1).toNat = k + 1 := by omega
      have hi4 : (k : Int) ≤ (k : Int) + 1 := by omega
      have a1 : (⟨t.toArray⟩ : ByteArray) ++ ⟨#[92]⟩ = ⟨(t ++ [92]).toArray⟩ := ba_append t [92]
      by_cases hc : ((⟨s.toArray⟩ : ByteArray)[k]'hbk).toNat = 34 ∨ ((⟨s.toArray⟩ : ByteArray)[k]'hbk).toNat = 92
      · have HN : Hid ((t ++ [92]) ++ [s[k]] = [34] ++ esc (s.take (k + 1))) := by
          show _ = _
          rw [HE.out, HT.out]
          have : escC s[k] = [92, s[k]] := by
            unfold escC
            rw [if_pos]
            rcases hc with h | h
            · exact Or.inr (UInt8.toNat_inj.1 h)
            · exact Or.inl (UInt8.toNat_inj.1 h)
          rw [this]
          simp
        have a2 : (⟨(t ++ [92]).toArray⟩ : ByteArray) ++ ⟨[s[k]].toArray⟩ = ⟨((t ++ [92]) ++ [s[k]]).toArray⟩ := ba_append _ _
        have hn1 : (t ++ [92]).length ≤ 2 + 2 * k := by simp; omega
        have hn2 : ((t ++ [92]) ++ [s[k]]).length ≤ 1 + 2 * (k + 1) := by simp; omega
        generalize s[k] = y at *
        obtain ⟨r, hr⟩ : ∃ r, r = t ++ [92] := ⟨_, rfl⟩
        rw [← hr] at a1 a2 HN hn1 hn2
        obtain ⟨r2, hr2⟩ : ∃ r2, r2 = r ++ [y] := ⟨_, rfl⟩
        rw [← hr2] at a2 HN hn2
        clear hr hr2 HT HE HC
        rcases hc with h | h
        · have hc' : ((((⟨s.toArray⟩ : ByteArray)[k]'hbk).toNat : Int) == 34) = true := by rw [beq_iff_eq]; omega
          clear h
          go_wp2
          go_round
          case rel => exact ⟨k + 1, r2, by omega, by go_num, rfl, HN, hn2⟩
          case measure => simp [intOf]; omega
        · have hc' : ((((⟨s.toArray⟩ : ByteArray)[k]'hbk).toNat : Int) == 34) = false := by rw [beq_eq_false_iff_ne]; omega
          have hc2 : ((((⟨s.toArray⟩ : ByteArray)[k]'hbk).toNat : Int) == 92) = true := by rw [beq_iff_eq]; omega
          clear h
          go_wp2
          go_round
          case rel => exact ⟨k + 1, r2, by omega, by go_num, rfl, HN, hn2⟩
          case measure => simp [intOf]; omega
      · have HN : Hid (t ++ [s[k]] = [34] ++ esc (s.take (k + 1))) := by
          show _ = _
          rw [HE.out, HT.out]
          have : escC s[k] = [s[k]] := by
            unfold escC
            rw [if_neg]
            rintro (h | h)
            · exact hc (Or.inr (by rw [← HC.out, h]; rfl))
            · exact hc (Or.inl (by rw [← HC.out, h]; rfl))
          rw [this]
          simp
        have a2 : (⟨t.toArray⟩ : ByteArray) ++ ⟨[s[k]].toArray⟩ = ⟨(t ++ [s[k]]).toArray⟩ := ba_append _ _
        have hn2 : (t ++ [s[k]]).length ≤ 1 + 2 * (k + 1) := by simp; omega
        have hc' : ((((⟨s.toArray⟩ : ByteArray)[k]'hbk).toNat : Int) == 34) = false := by rw [beq_eq_false_iff_ne]; omega
        have hc2 : ((((⟨s.toArray⟩ : ByteArray)[k]'hbk).toNat : Int) == 92) = false := by rw [beq_eq_false_iff_ne]; omega
        generalize s[k] = y at *
        obtain ⟨r2, hr2⟩ : ∃ r2, r2 = t ++ [y] := ⟨_, rfl⟩
        rw [← hr2] at a2 HN hn2
        clear hr2 HT HE HC hc a1
        go_wp2
        go_round
        case rel => exact ⟨k + 1, r2, by omega, by go_num, rfl, HN, hn2⟩
        case measure => simp [intOf]; omega
    · have HR : Hid (t = [34] ++ esc s) := by show _ = _; rw [HT.out, List.take_of_length_le (by omega)]
      have a1 : (⟨t.toArray⟩ : ByteArray) ++ ⟨#[34]⟩ = ⟨(t ++ [34]).toArray⟩ := ba_append t [34]
      have HT2 : Hid (t ++ [34] = 34 :: (esc s ++ [34])) := by show _ = _; rw [HR.out]; simp
      obtain ⟨r, hr⟩ : ∃ r, r = t ++ [34] := ⟨_, rfl⟩
      rw [← hr] at a1 HT2
      clear HR HT hr
      go_wp2_with fail
      go_ret
      exact ⟨by rw [← HT2.out]; rfl, rfl⟩

theorem name_under (y : UInt8) : fName [95, y] = nameCh y := by
  unfold fName
  have h1 : digB 95 = false := by decide
  have h2 : nameCh 95 = true := by decide
  simp [h1, h2]
theorem takeWhile_len {s : Str} {k : Nat} (hk : k ≤ s.length) (h : ∀ i (hi : i < s.length), i < k → nameCh s[i] = true) (he : ∀ (hl : k < s.length), nameCh s[k] = false) : (s.takeWhile nameCh).length = k := by
  induction s generalizing k with
  | nil => simp at hk; simp [hk]
  | cons c r ih =>
    cases k with
    | zero =>
      have := he (by simp)
      simp at this
      simp [this]
    | succ k =>
      have h0 := h 0 (by simp) (by omega)
      simp at h0
      rw [List.takeWhile_cons, if_pos h0, List.length_cons]
      congr 1
      refine ih (by simpa using hk) (fun i hi hlt => ?_) (fun hl => ?_)
      · have := h (i + 1) (by simpa using hi) (by omega)
        simpa using this
      · have := he (by simpa using hl)
        simpa using this
set_option maxHeartbeats 1000000 in
theorem ident_any (s : Str) (w : World) (hl : s.length ≤ 1000000) :
    Calls Tryz.prog 76 #[tx s] w fun e w' => e = .returned (.int .i64 ((s.takeWhile nameCh).length : Nat)) ∧ w = w' := by
  go_enter Tryz.func76, Tryz.ntmps76
  go_wp2_with fail
  go_loop [3] (fun i => ∃ k : Nat, k ≤ s.length ∧ i = .int .i64 k ∧ Hid (∀ i (hi : i < s.length), i < k → nameCh s[i] = true)) (fun i => s.length - (intOf i).toNat)
  case atStart => exact ⟨0, by omega, rfl, fun i h h2 => by omega⟩
  case round =>
    obtain ⟨k, hk, rfl, HA⟩ := hrel
    by_cases hlt : k < s.length
    · have hex := ex_one s k hlt
      have hwr : IntKind.i64.wrap ((k : Int) + 1) = (k : Int) + 1 := by rw [IntKind.wrap_i64]; omega
      have hi1 : (k : Int) + 1 ≤ s.length := by omega
      have hi2 : ¬ ((k : Int) + 1 < 0) := by omega
      have hi3 : ((k : Int) + 1).toNat = k + 1 := by omega
      have hi4 : (k : Int) ≤ (k : Int) + 1 := by omega
      have HT : Hid (nameCh s[k] = false → (s.takeWhile nameCh).length = k) := fun h => takeWhile_len hk HA.out (fun _ => h)
      have HS : Hid (nameCh s[k] = true → ∀ i (hi : i < s.length), i < k + 1 → nameCh s[i] = true) := fun h i hi hik => by
        by_cases e : i = k
        · subst e; exact h
        · exact HA.out i hi (by omega)
      have hnm := fun (W : World) => refName_any [95, s[k]] W (by simp)
      rw [name_under] at hnm
      have a2 : (⟨#[95]⟩ : ByteArray) ++ ⟨[s[k]].toArray⟩ = ⟨[95, s[k]].toArray⟩ := ba_append [95] [s[k]]
      have hrl : [95, s[k]].length ≤ 2 := by simp
      clear HA
      generalize s[k] = y at *
      obtain ⟨r, hr⟩ : ∃ r, r = [95, y] := ⟨_, rfl⟩
      rw [← hr] at a2 hnm hrl
      clear hr
      cases hc : nameCh y with
      | true =>
        have HR : Hid _ := HS.out hc
        rw [hc] at hnm
        clear hc HS HT
        go_wp2_with fail
        refine (hnm _).mono ?_
        rintro e w' ⟨rfl, rfl⟩
        go_wp2
        go_round
        case rel => exact ⟨k + 1, by omega, by go_num, HR⟩
        case measure => simp [intOf]; omega
      | false =>
        have HR : Hid _ := HT.out hc
        rw [hc] at hnm
        clear hc HS HT
        go_wp2_with fail
        refine (hnm _).mono ?_
        rintro e w' ⟨rfl, rfl⟩
        go_wp2
        go_ret
        exact ⟨by rw [HR.out]; rfl, rfl⟩
    · have HR : Hid ((s.takeWhile nameCh).length = k) := takeWhile_len hk HA.out (fun h => absurd h hlt)
      clear HA
      go_wp2_with fail
      go_ret
      exact ⟨by rw [HR.out]; rfl, rfl⟩
end Go.Proofs.YtcbjhfnlhpallaaGreatDoor
/- The reference's Is: as the program's. -/
namespace Go.Proofs.YtcbjhfnlhpallaaGreatDoor
open Go.RowKit

theorem fVal_r (s : Str) : fVal s = (!(s == []) && rVal s) := by
  unfold fVal rVal
  cases s with
  | nil => rfl
  | cons c r =>
    have : (((c :: r) == []) : Bool) = false := rfl
    rw [this]
    simp [Bool.and_comm]
set_option maxRecDepth 100000 in
set_option maxHeartbeats 4000000 in
theorem refIs_any (xa : Option Addr) (n c : Nat) (l : List Pr) (w : World) (hn : n ≤ 9223372036854775807) (hf : Fit l) (hx : Ps w xa n l) :
    Calls Tryz.prog 47 #[.slice xa n c] w fun e w' => e = .returned (.bool (fIs l)) ∧ Below w.heap.size w w' := by
  obtain ⟨hla, hca⟩ := hx
  have HA : Hid (l.length = n) := hla
  clear hla
  go_enter Tryz.func47, Tryz.ntmps47
  go_wp2_with fail
  go_loopw [3] (fun i wr => ∃ j : Nat, j ≤ n ∧ i = .int .i64 j ∧ Hid (∀ i, i < j → okAt l i = true) ∧ Below w.heap.size w wr) (fun i _ => n - (intOf i).toNat)
  case atStart => exact ⟨0, by omega, rfl, fun i h => by omega, Below.refl _ _⟩
  case round =>
    obtain ⟨j, hj, rfl, ht, hb⟩ := hrel
    by_cases hlt : j < n
    · obtain ⟨b1, o1, rfl, h1⟩ := hca (by omega)
      obtain ⟨c10, c11⟩ := h1 j hlt
      have k0 := (hb.cell (p := ⟨b1, o1 + j * 2, none⟩) (World.block_lt_of_cell? _ _ c10)).trans c10
      have k1 := (hb.cell (p := ⟨b1, o1 + j * 2 + 1, none⟩) (World.block_lt_of_cell? _ _ c11)).trans c11
      clear c10 c11
      have HN : Hid (okAt l j = true → ∀ i, i < j + 1 → okAt l i = true) := fun h i hi => by
        by_cases e : i = j
        · rw [e]; exact h
        · exact ht.out i (by omega)
      have HF : Hid (okAt l j = false → fIs l = false) := is_not (by rw [HA.out]; exact hlt)
      have hfa := hf.at j
      have hnm := fun w => refName_any (l.getD j ([], [])).1 w hfa.1
      have hvl := fun w => refValue_any (l.getD j ([], [])).2 w hfa.2
      have HO : Hid (okAt l j = (fName (l.getD j ([], [])).1 && fVal (l.getD j ([], [])).2 && (decide (j = 0) || decide ((l.getD (j - 1) ([], [])).1 < (l.getD j ([], [])).1)))) := rfl
      clear hfa
      by_cases h0 : j = 0
      · have h0' : ¬ (0 : Int) < j := by omega
        have h0d : decide (0 < j) = false := decide_eq_false (by omega)
        have HO' : Hid (okAt l j = (fName (l.getD j ([], [])).1 && fVal (l.getD j ([], [])).2)) := by
          show _ = _
          rw [HO.out, h0]; simp
        clear h1 hca HO h0 ht
        generalize okAt l j = ok at *
        generalize l.getD j ([], []) = p at *
        obtain ⟨p1, p2⟩ := p
        dsimp only at *
        cases hN : fName p1 with
        | false =>
          have HR : Hid (fIs l = false) := HF.out (by rw [HO'.out, hN]; rfl)
          rw [hN] at hnm
          clear HO' HF HN hN
          go_wp2
          go_quiet ((first | (go_at_call 30; exact quiet_eq (hnm _)) | (go_at_call 21; exact quiet_eq (hvl _))))
          go_wp2
          go_ret
          exact ⟨by rw [HR.out]; rfl, below_drewN hb _⟩
        | true =>
          rw [hN] at hnm
          by_cases hE : p2 = []
          · have HR : Hid (fIs l = false) := HF.out (by rw [HO'.out, hN, fVal_r, hE]; rfl)
            have hE' : (p2 == []) = true := by simpa using hE
            clear HO' HF HN hN hE
            go_wp2
            go_quiet ((first | (go_at_call 30; exact quiet_eq (hnm _)) | (go_at_call 21; exact quiet_eq (hvl _))))
            go_wp2
            go_ret
            exact ⟨by rw [HR.out]; rfl, below_drewN hb _⟩
          · have hE' : (p2 == []) = false := by simpa using hE
            cases hV : rVal p2 with
            | false =>
              have HR : Hid (fIs l = false) := HF.out (by rw [HO'.out, hN, fVal_r, hV]; simp)
              rw [hV] at hvl
              clear HO' HF HN hN hE hV
              go_wp2
              go_quiet ((first | (go_at_call 30; exact quiet_eq (hnm _)) | (go_at_call 21; exact quiet_eq (hvl _))))
              go_wp2
              go_ret
              exact ⟨by rw [HR.out]; rfl, below_drewN hb _⟩
            | true =>
              have HR : Hid (∀ i, i < j + 1 → okAt l i = true) := HN.out (by rw [HO'.out, hN, fVal_r, hV]; simp [hE])
              rw [hV] at hvl
              clear HO' HF HN hN hE hV
              go_wp2
              go_quiet ((first | (go_at_call 30; exact quiet_eq (hnm _)) | (go_at_call 21; exact quiet_eq (hvl _))))
              go_wp2
              go_roundw
              case rel => exact ⟨j + 1, by omega, by go_num, HR, below_drewN hb _⟩
              case measure => simp [intOf]; omega
      · obtain ⟨k, rfl⟩ : ∃ k, j = k + 1 := ⟨j - 1, by omega⟩
        obtain ⟨c00, _⟩ := h1 k (by omega)
        have kk := (hb.cell (p := ⟨b1, o1 + k * 2, none⟩) (World.block_lt_of_cell? _ _ c00)).trans c00
        clear c00
        have HO' : Hid (okAt l (k + 1) = (fName (l.getD (k + 1) ([], [])).1 && fVal (l.getD (k + 1) ([], [])).2 && decide ((l.getD k ([], [])).1 < (l.getD (k + 1) ([], [])).1))) := by
          show _ = _
          rw [HO.out]; simp
        have h0d : decide ((0 : Int) < ((k + 1 : Nat) : Int)) = true := decide_eq_true (by omega)
        have hlss := less_eq (l.getD k ([], [])).1 (l.getD (k + 1) ([], [])).1
        clear h1 hca HO h0 ht
        generalize okAt l (k + 1) = ok at *
        generalize l.getD (k + 1) ([], []) = p at *
        generalize l.getD k ([], []) = q at *
        obtain ⟨p1, p2⟩ := p
        obtain ⟨q1, q2⟩ := q
        dsimp only at *
        cases hN : fName p1 with
        | false =>
          have HR : Hid (fIs l = false) := HF.out (by rw [HO'.out, hN]; rfl)
          rw [hN] at hnm
          clear HO' HF HN hN hlss
          go_wp2
          go_quiet ((first | (go_at_call 30; exact quiet_eq (hnm _)) | (go_at_call 21; exact quiet_eq (hvl _))))
          go_wp2
          go_ret
          exact ⟨by rw [HR.out]; rfl, below_drewN hb _⟩
        | true =>
          rw [hN] at hnm
          by_cases hE : p2 = []
          · have HR : Hid (fIs l = false) := HF.out (by rw [HO'.out, hN, fVal_r, hE]; rfl)
            have hE' : (p2 == []) = true := by simpa using hE
            clear HO' HF HN hN hE hlss
            go_wp2
            go_quiet ((first | (go_at_call 30; exact quiet_eq (hnm _)) | (go_at_call 21; exact quiet_eq (hvl _))))
            go_wp2
            go_ret
            exact ⟨by rw [HR.out]; rfl, below_drewN hb _⟩
          · have hE' : (p2 == []) = false := by simpa using hE
            cases hV : rVal p2 with
            | false =>
              have HR : Hid (fIs l = false) := HF.out (by rw [HO'.out, hN, fVal_r, hV]; simp)
              rw [hV] at hvl
              clear HO' HF HN hN hE hV hlss
              go_wp2
              go_quiet ((first | (go_at_call 30; exact quiet_eq (hnm _)) | (go_at_call 21; exact quiet_eq (hvl _))))
              go_wp2
              go_ret
              exact ⟨by rw [HR.out]; rfl, below_drewN hb _⟩
            | true =>
              rw [hV] at hvl
              by_cases hq : q1 < p1
              · have HR : Hid (∀ i, i < k + 1 + 1 → okAt l i = true) := HN.out (by rw [HO'.out, hN, fVal_r, hV]; simp [hE, hq])
                rw [decide_eq_true hq] at hlss
                clear HO' HF HN hN hE hV hq
                go_wp2
                go_quiet ((first | (go_at_call 30; exact quiet_eq (hnm _)) | (go_at_call 21; exact quiet_eq (hvl _))))
                go_wp2
                go_roundw
                case rel => exact ⟨k + 1 + 1, by omega, by go_num, HR, below_drewN hb _⟩
                case measure => simp [intOf]; omega
              · have HR : Hid (fIs l = false) := HF.out (by rw [HO'.out, hN, fVal_r, hV]; simp [hq])
                rw [decide_eq_false hq] at hlss
                clear HO' HF HN hN hE hV hq
                go_wp2
                go_quiet ((first | (go_at_call 30; exact quiet_eq (hnm _)) | (go_at_call 21; exact quiet_eq (hvl _))))
                go_wp2
                go_ret
                exact ⟨by rw [HR.out]; rfl, below_drewN hb _⟩
    · have HT' : Hid (decide (n ≤ 8) = fIs l) := by
        show _ = _
        by_cases h8 : n ≤ 8
        · rw [is_all (by rw [HA.out]; omega) (fun i hi => ht.out i (by rw [HA.out] at hi; omega)), decide_eq_true h8]
        · unfold fIs
          rw [decide_eq_false h8, decide_eq_false (by rw [HA.out]; omega)]
          rfl
      by_cases h8 : n ≤ 8
      · have h8' : (n : Int) ≤ 8 := by omega
        have HR : Hid (fIs l = true) := by show _ = _; rw [← HT'.out]; simp [h8]
        clear HT' h8
        go_wp2_with fail
        go_ret
        exact ⟨by rw [HR.out]; rfl, hb⟩
      · have h8' : ¬ (n : Int) ≤ 8 := by omega
        have HR : Hid (fIs l = false) := by show _ = _; rw [← HT'.out]; simp [h8]
        clear HT' h8
        go_wp2_with fail
        go_ret
        exact ⟨by rw [HR.out]; rfl, hb⟩
end Go.Proofs.YtcbjhfnlhpallaaGreatDoor
/- The reference's Print: as the program's. -/
namespace Go.Proofs.YtcbjhfnlhpallaaGreatDoor
open Go.RowKit

def oth (mt : Bool) (l : List Pr) : List Pr := l.filter fun p => !(decide (p.1 = nm) && mt)
theorem oth_out {mt : Bool} {l : List Pr} {j : Nat} (hj : j < l.length) (h : (l.getD j ([], [])).1 = nm) (hm : mt = true) : oth mt (l.take (j + 1)) = oth mt (l.take j) := by
  rw [getD_at hj] at h
  unfold oth
  rw [List.take_succ_eq_append_getElem hj, List.filter_append]
  simp [h, hm]
theorem oth_in {mt : Bool} {l : List Pr} {j : Nat} (hj : j < l.length) (h : ¬ ((l.getD j ([], [])).1 = nm ∧ mt = true)) : oth mt (l.take (j + 1)) = oth mt (l.take j) ++ [l.getD j ([], [])] := by
  rw [getD_at hj] at *
  unfold oth
  rw [List.take_succ_eq_append_getElem hj, List.filter_append]
  congr 1
  rw [List.filter_cons, if_pos]
  · rfl
  · by_cases e : l[j].1 = nm
    · cases mt
      · simp
      · exact absurd ⟨e, rfl⟩ h
    · simp [e]
theorem others_oth (l : List Pr) : others l = oth (fName (fGet l nm)) l := by
  unfold others oth
  split
  · rename_i h
    unfold fWithout
    congr 1
    funext p
    simp [h]
  · rename_i h
    rw [Bool.not_eq_true] at h
    rw [h]
    exact (List.filter_eq_self.2 (by simp)).symm
theorem inner_snoc (l : List Pr) (p : Pr) (h : l ≠ []) : inner (l ++ [p]) = inner l ++ ([44] ++ pairT p) := by
  induction l with
  | nil => exact absurd rfl h
  | cons a l ih =>
    cases l with
    | nil => rw [List.singleton_append, inner_cons, inner_one, inner_one]
    | cons b l =>
      have := ih (by simp)
      rw [List.cons_append, List.cons_append, inner_cons, inner_cons, ← List.cons_append, this]
      simp
theorem oth_le (mt : Bool) (l : List Pr) (j : Nat) : (oth mt (l.take j)).length ≤ j :=
  Nat.le_trans (List.length_filter_le _ _) (List.length_take_le _ _)
theorem oth_mem {mt : Bool} {l : List Pr} {j : Nat} {p : Pr} (h : p ∈ oth mt (l.take j)) : p ∈ l := List.mem_of_mem_take (List.mem_filter.1 h).1

set_option maxRecDepth 100000 in
set_option maxHeartbeats 4000000 in
theorem refPrint_any (xa : Option Addr) (n c : Nat) (l : List Pr) (w : World) (hn : n ≤ 9223372036854775807) (hf : Fit l) (hx : Ps w xa n l) :
    Calls Tryz.prog 53 #[.slice xa n c] w fun e w' => e = .returned (tx (fPrint l)) ∧ Below w.heap.size w w' := by
  have his := refIs_any xa n c l w hn hf hx
  cases hil : fIs l with
  | false =>
    have HR : Hid (fPrint l = []) := by show _ = _; unfold fPrint; rw [hil]; rfl
    rw [hil] at his
    clear hil
    go_enter Tryz.func53, Tryz.ntmps53
    go_wp2_with fail
    refine his.mono ?_
    rintro e w1 ⟨rfl, hb1⟩
    go_wp2
    go_ret
    exact ⟨by rw [HR.out]; rfl, hb1⟩
  | true =>
    have hi' := (is_iff l).1 hil
    have hn8 : n ≤ 8 := by rw [← hx.1]; exact hi'.1
    have hsz : ∀ p ∈ l, p.1.length ≤ 20 ∧ p.2.length ≤ 30 := fun p hp => ⟨(name_len (hi'.2.1 p hp).1).2, (val_len (hi'.2.1 p hp).2).2⟩
    have hat : ∀ j, j < n → (l.getD j ([], [])).1.length ≤ 20 ∧ (l.getD j ([], [])).2.length ≤ 30 := fun j hj => hsz _ (by rw [getD_at (by rw [hx.1]; exact hj)]; exact List.getElem_mem _)
    have hgt := fun (W : World) (hW : Below w.heap.size w W) => refGet_any xa n c l nm W hn (hx.later hW)
    have hnl : (fGet l nm).length ≤ 9223372036854775807 := by
      by_cases h : fGet l nm = []
      · rw [h]; simp
      · have := (hsz _ (get_mem h)).2
        exact Nat.le_trans this (by decide)
    have hnm := fun (W : World) => refName_any (fGet l nm) W hnl
    have HO : Hid _ := others_oth l
    have HME : Hid (metric l = if fName (fGet l nm) = true then fGet l nm else []) := rfl
    have HL : Hid (l.length = n) := hx.1
    have HR : Hid (fPrint l = if metric l ≠ [] ∧ others l = [] then metric l else metric l ++ [123] ++ inner (others l) ++ [125]) := by show _ = _; unfold fPrint; rw [if_pos hil]
    have hml : (fGet l nm).length ≤ 30 := by
      by_cases h : fGet l nm = []
      · rw [h]; simp
      · exact (hsz _ (get_mem h)).2
    have hle : ∀ j, j ≤ n → (inner (oth (fName (fGet l nm)) (l.take j))).length ≤ 672 := fun j hj => by
      refine Nat.le_trans (inner_le _ fun p hp => hsz p (oth_mem hp)) ?_
      have := oth_le (fName (fGet l nm)) l j
      omega
    have hne : fName (fGet l nm) = true → fGet l nm ≠ [] := fun h e => by rw [e] at h; cases h
    rw [hil] at his
    obtain ⟨_, hcell⟩ := id hx
    clear hil hi' hsz hnl hf
    generalize fGet l nm = g at *
    obtain ⟨mt, hmt⟩ : ∃ b, b = fName g := ⟨_, rfl⟩
    rw [← hmt] at hnm HO hle HME hne
    clear hmt
    go_enter Tryz.func53, Tryz.ntmps53
    go_wp2_with fail
    refine his.mono ?_
    rintro e w1 ⟨rfl, hb1⟩
    go_wp2_with fail
    refine (hgt _ hb1).mono ?_
    rintro e w' ⟨rfl, rfl⟩
    obtain ⟨M, hMd⟩ : ∃ M, M = metric l := ⟨_, rfl⟩
    rw [← hMd] at HR HME
    cases mt with
    | true =>
      have hMg : g = M := by rw [HME.out, if_pos rfl]
      subst hMg
      have hMe : (g == []) = false := by simpa using hne rfl
      clear HME hne hMd his hgt
      go_wp2_with fail
      refine (hnm _).mono ?_
      rintro e w' ⟨rfl, rfl⟩
      go_wp2_with fail
      go_loopw [6, 5, 4] (fun i u s wr => ∃ (j : Nat) (t : Str), j ≤ n ∧ i = .int .i64 j ∧ u = .int .i64 ((oth true (l.take j)).length : Nat) ∧ s = tx t ∧ Hid (t = inner (oth true (l.take j))) ∧ Below w.heap.size w wr) (fun i _ _ _ => n - (intOf i).toNat)
      case atStart => exact ⟨0, [], by omega, rfl, rfl, rfl, rfl, hb1⟩
      case round =>
        obtain ⟨j, t, hj, rfl, rfl, rfl, HT, hb⟩ := hrel
        have htl : t.length ≤ 672 := by rw [HT.out]; exact hle j hj
        have hol := oth_le true l j
        by_cases hlt : j < n
        · obtain ⟨b1, o1, rfl, h1⟩ := hcell (by omega)
          obtain ⟨c10, c11⟩ := h1 j hlt
          have m0 : ∀ W, Below wr.heap.size wr W → W.cell? ⟨b1, o1 + j * 2, none⟩ = some (tx (l.getD j ([], [])).1) := fun W hW => ((Below.chain hb hW).cell (p := ⟨b1, o1 + j * 2, none⟩) (World.block_lt_of_cell? _ _ c10)).trans c10
          have m1 : ∀ W, Below wr.heap.size wr W → W.cell? ⟨b1, o1 + j * 2 + 1, none⟩ = some (tx (l.getD j ([], [])).2) := fun W hW => ((Below.chain hb hW).cell (p := ⟨b1, o1 + j * 2 + 1, none⟩) (World.block_lt_of_cell? _ _ c11)).trans c11
          have k0 := m0 wr (Below.refl _ _)
          have HI : Hid _ := oth_in (mt := true) (l := l) (j := j) (by rw [HL.out]; exact hlt)
          have HX : Hid _ := oth_out (mt := true) (l := l) (j := j) (by rw [HL.out]; exact hlt)
          have hpl := hat j hlt
          clear h1 hcell c10 c11 hat HR HO hx
          generalize l.getD j ([], []) = p at *
          obtain ⟨p1, p2⟩ := p
          dsimp only at *
          have hqt := fun (W : World) => refQuote_any p2 W (by omega)
          have hql : ([34] ++ esc p2 ++ [34]).length ≤ 62 := by have := esc_len p2; simp; omega
          have HP : Hid (inner [(p1, p2)] = p1 ++ [61] ++ ([34] ++ esc p2 ++ [34])) := by show _ = _; rw [inner_one]; unfold pairT; simp
          have HP2 : Hid (oth true (l.take j) ≠ [] → inner (oth true (l.take j) ++ [(p1, p2)]) = inner (oth true (l.take j)) ++ [44] ++ (p1 ++ [61] ++ ([34] ++ esc p2 ++ [34]))) := fun h => by rw [inner_snoc _ _ h]; unfold pairT; simp
          obtain ⟨qv, hqv⟩ : ∃ q, q = [34] ++ esc p2 ++ [34] := ⟨_, rfl⟩
          rw [← hqv] at hqt hql HP HP2
          clear hqv
          by_cases hpn : p1 = nm
          · have hpn' : (p1 == [95, 95, 110, 97, 109, 101, 95, 95]) = true := by simpa [nm] using hpn
            have HJ : Hid _ := HX.out hpn rfl
            clear hpn HI HX HP HP2 hqt
            generalize hN0 : (oth true (l.take j)).length = N at *
            have HN0 : Hid _ := hN0
            clear hN0
            go_wp2
            go_roundw
            case rel => exact ⟨j + 1, t, by omega, by go_num, by rw [HJ.out, HN0.out], rfl, by rw [HJ.out]; exact HT, hb⟩
            case measure => simp [intOf]; omega
          · have hpn' : (p1 == [95, 95, 110, 97, 109, 101, 95, 95]) = false := by simpa [nm] using hpn
            have HJ : Hid _ := HI.out (fun h => hpn h.1)
            clear hpn HI HX
            by_cases hz : oth true (l.take j) = []
            · have hz0 : ((oth true (l.take j)).length : Int) = 0 := by rw [hz]; rfl
              have hz1 : ¬ (0 : Int) < ((oth true (l.take j)).length : Nat) := by omega
              have hlen : (oth true (l.take (j + 1))).length = (oth true (l.take j)).length + 1 := by rw [HJ.out]; simp
              have hte : t = [] := by rw [HT.out, hz]; rfl
              obtain ⟨t1, ht1⟩ : ∃ q, q = t ++ p1 := ⟨_, rfl⟩
              have H1 : Hid _ := ht1
              obtain ⟨t2, ht2⟩ : ∃ q, q = t1 ++ [61] := ⟨_, rfl⟩
              have H2 : Hid _ := ht2
              obtain ⟨t3, ht3⟩ : ∃ q, q = t2 ++ qv := ⟨_, rfl⟩
              have H3 : Hid _ := ht3
              have g1 : t1.length = t.length + p1.length := by rw [ht1]; simp
              have g2 : t2.length = t1.length + 1 := by rw [ht2]; simp
              have HN : Hid (t3 = inner (oth true (l.take (j + 1)))) := by show _ = _; rw [HJ.out, hz, List.nil_append, HP.out, ht3, ht2, ht1, hte]; rfl
              have HLN : Hid _ := hlen
              have G1 : t1.length ≤ 700 := by omega
              have G2 : t2.length ≤ 701 := by omega
              clear hz hz0 hlen hte ht1 ht2 ht3 g1 g2 HT HP HP2 HJ
              generalize (oth true (l.take j)).length = N at *
              go_wp2_with fail
              have C0 : Below wr.heap.size wr wr.drew := (Below.refl _ _).drew
              refine wp_region_noPanic ?_
              refine wp_region_held_drew (S := fun W => Below wr.heap.size wr W) (by kernel_rfl) ?_ (fun _ => ?_)
              · exact C0
              generalize wr.drew = wd at *
              refine take_at 0 (some 37) (tx t) rfl rfl (by kernel_rfl) (by kernel_rfl) (by kernel_rfl) (fun _ _ _ h => h) (by rfl) (fun W hSw => by go_simp) C0 ?_
              simp only [Act.put, List.setIfInBounds_toArray, List.set_cons_zero, List.set_cons_succ]
              refine take_at 1 (some 38) (.slice (some ⟨b1, o1, none⟩) n c) rfl rfl (by kernel_rfl) (by kernel_rfl) (by kernel_rfl) (fun _ _ _ h => h) (by rfl) (fun W hSw => by go_simp) C0 ?_
              simp only [Act.put, List.setIfInBounds_toArray, List.set_cons_zero, List.set_cons_succ]
              refine take_at 2 (some 39) (.int .i64 j) rfl rfl (by kernel_rfl) (by kernel_rfl) (by kernel_rfl) (fun _ _ _ h => h) (by rfl) (fun W hSw => by go_simp) C0 ?_
              simp only [Act.put, List.setIfInBounds_toArray, List.set_cons_zero, List.set_cons_succ]
              refine take_at 3 (some 40) (.pointer (some ⟨b1, o1 + j * 2, none⟩)) rfl rfl (by kernel_rfl) (by kernel_rfl) (by kernel_rfl) (fun _ _ _ h => h) (by rfl) (fun W hSw => by go_simp) C0 ?_
              simp only [Act.put, List.setIfInBounds_toArray, List.set_cons_zero, List.set_cons_succ]
              refine take_at 4 (some 41) (.pointer (some ⟨b1, o1 + j * 2, none⟩)) rfl rfl (by kernel_rfl) (by kernel_rfl) (by kernel_rfl) (fun _ _ _ h => h) (by rfl) (fun W hSw => by go_simp) C0 ?_
              simp only [Act.put, List.setIfInBounds_toArray, List.set_cons_zero, List.set_cons_succ]
              refine take_at 5 (some 42) (tx p1) rfl rfl (by kernel_rfl) (by kernel_rfl) (by kernel_rfl) (fun _ _ _ h => h) (by rfl) (fun W hSw => by have c0 := m0 W hSw; go_simp) C0 ?_
              simp only [Act.put, List.setIfInBounds_toArray, List.set_cons_zero, List.set_cons_succ]
              refine take_at 6 (some 43) (tx t1) rfl rfl (by kernel_rfl) (by kernel_rfl) (by kernel_rfl) (fun _ _ _ h => h) (by rfl) (fun W hSw => exec_add rfl t p1 rfl rfl (by omega) t1 H1.out W) C0 ?_
              simp only [Act.put, List.setIfInBounds_toArray, List.set_cons_zero, List.set_cons_succ]
              refine take_at 7 (some 44) (tx t2) rfl rfl (by kernel_rfl) (by kernel_rfl) (by kernel_rfl) (fun _ _ _ h => h) (by rfl) (fun W hSw => exec_add rfl t1 [61] rfl rfl (by simp; omega) t2 H2.out W) C0 ?_
              simp only [Act.put, List.setIfInBounds_toArray, List.set_cons_zero, List.set_cons_succ]
              refine take_at 8 (some 45) (.slice (some ⟨b1, o1, none⟩) n c) rfl rfl (by kernel_rfl) (by kernel_rfl) (by kernel_rfl) (fun _ _ _ h => h) (by rfl) (fun W hSw => by go_simp) C0 ?_
              simp only [Act.put, List.setIfInBounds_toArray, List.set_cons_zero, List.set_cons_succ]
              refine take_at 9 (some 46) (.int .i64 j) rfl rfl (by kernel_rfl) (by kernel_rfl) (by kernel_rfl) (fun _ _ _ h => h) (by rfl) (fun W hSw => by go_simp) C0 ?_
              simp only [Act.put, List.setIfInBounds_toArray, List.set_cons_zero, List.set_cons_succ]
              refine take_at 10 (some 47) (.pointer (some ⟨b1, o1 + j * 2, none⟩)) rfl rfl (by kernel_rfl) (by kernel_rfl) (by kernel_rfl) (fun _ _ _ h => h) (by rfl) (fun W hSw => by go_simp) C0 ?_
              simp only [Act.put, List.setIfInBounds_toArray, List.set_cons_zero, List.set_cons_succ]
              refine take_at 11 (some 48) (.pointer (some ⟨b1, o1 + j * 2 + 1, none⟩)) rfl rfl (by kernel_rfl) (by kernel_rfl) (by kernel_rfl) (fun _ _ _ h => h) (by rfl) (fun W hSw => by go_simp) C0 ?_
              simp only [Act.put, List.setIfInBounds_toArray, List.set_cons_zero, List.set_cons_succ]
              refine take_at 12 (some 49) (tx p2) rfl rfl (by kernel_rfl) (by kernel_rfl) (by kernel_rfl) (fun _ _ _ h => h) (by rfl) (fun W hSw => by have c1 := m1 W hSw; go_simp) C0 ?_
              simp only [Act.put, List.setIfInBounds_toArray, List.set_cons_zero, List.set_cons_succ]
              refine wpAnyH_ready (rs := [13]) (by kernel_rfl) (by simp) ?_
              refine AllReadyH.cons rfl (fun K hK => ?_) AllReadyH.nil
              go_simp
              refine (hqt _).mono ?_
              rintro e w8 ⟨rfl, rfl⟩
              refine hK.out _ _ ?_ (fun _ => ?_)
              · exact C0
              clear hK K
              refine take_at 14 (some 51) (tx t3) rfl rfl (by kernel_rfl) (by kernel_rfl) (by kernel_rfl) (fun _ _ _ h => h) (by rfl) (fun W hSw => exec_add rfl t2 qv rfl rfl (by omega) t3 H3.out W) C0 ?_
              simp only [Act.put, List.setIfInBounds_toArray, List.set_cons_zero, List.set_cons_succ]
              refine take_at 15 (some 4) (tx t3) rfl rfl (by kernel_rfl) (by kernel_rfl) (by kernel_rfl) (fun _ _ _ h => h) (by rfl) (fun W hSw => by go_simp) C0 ?_
              simp only [Act.put, List.setIfInBounds_toArray, List.set_cons_zero, List.set_cons_succ]
              refine wpAnyH_done (by kernel_rfl) ?_ _
              refine NoPanic.normal ?_
              go_wp2
              go_roundw
              case rel => exact ⟨j + 1, t3, by omega, by go_num, by rw [HLN.out]; go_num, rfl, HN, Below.chain hb C0⟩
              case measure => simp [intOf]; omega
            · have hz1 : (0 : Int) < ((oth true (l.take j)).length : Nat) := by have := List.length_pos_iff.2 hz; omega
              have hlen : (oth true (l.take (j + 1))).length = (oth true (l.take j)).length + 1 := by rw [HJ.out]; simp
              obtain ⟨tc, htc⟩ : ∃ q, q = t ++ [44] := ⟨_, rfl⟩
              have a1 : (⟨t.toArray⟩ : ByteArray) ++ ⟨#[44]⟩ = ⟨tc.toArray⟩ := by rw [htc]; exact ba_append t [44]
              obtain ⟨t1, ht1⟩ : ∃ q, q = tc ++ p1 := ⟨_, rfl⟩
              have H1 : Hid _ := ht1
              obtain ⟨t2, ht2⟩ : ∃ q, q = t1 ++ [61] := ⟨_, rfl⟩
              have H2 : Hid _ := ht2
              obtain ⟨t3, ht3⟩ : ∃ q, q = t2 ++ qv := ⟨_, rfl⟩
              have H3 : Hid _ := ht3
              have g0 : tc.length = t.length + 1 := by rw [htc]; simp
              have g1 : t1.length = tc.length + p1.length := by rw [ht1]; simp
              have g2 : t2.length = t1.length + 1 := by rw [ht2]; simp
              have HN : Hid (t3 = inner (oth true (l.take (j + 1)))) := by show _ = _; rw [HJ.out, HP2.out hz, ht3, ht2, ht1, htc, HT.out]; simp
              have HLN : Hid _ := hlen
              have G0 : tc.length ≤ 680 := by omega
              have G1 : t1.length ≤ 700 := by omega
              have G2 : t2.length ≤ 701 := by omega
              clear hz hlen htc ht1 ht2 ht3 g0 g1 g2 HT HP HP2 HJ
              generalize (oth true (l.take j)).length = N at *
              go_wp2_with fail
              have C0 : Below wr.heap.size wr wr.drew := (Below.refl _ _).drew
              refine wp_region_noPanic ?_
              refine wp_region_held_drew (S := fun W => Below wr.heap.size wr W) (by kernel_rfl) ?_ (fun _ => ?_)
              · exact C0
              generalize wr.drew = wd at *
              refine take_at 0 (some 37) (tx tc) rfl rfl (by kernel_rfl) (by kernel_rfl) (by kernel_rfl) (fun _ _ _ h => h) (by rfl) (fun W hSw => by go_simp) C0 ?_
              simp only [Act.put, List.setIfInBounds_toArray, List.set_cons_zero, List.set_cons_succ]
              refine take_at 1 (some 38) (.slice (some ⟨b1, o1, none⟩) n c) rfl rfl (by kernel_rfl) (by kernel_rfl) (by kernel_rfl) (fun _ _ _ h => h) (by rfl) (fun W hSw => by go_simp) C0 ?_
              simp only [Act.put, List.setIfInBounds_toArray, List.set_cons_zero, List.set_cons_succ]
              refine take_at 2 (some 39) (.int .i64 j) rfl rfl (by kernel_rfl) (by kernel_rfl) (by kernel_rfl) (fun _ _ _ h => h) (by rfl) (fun W hSw => by go_simp) C0 ?_
              simp only [Act.put, List.setIfInBounds_toArray, List.set_cons_zero, List.set_cons_succ]
              refine take_at 3 (some 40) (.pointer (some ⟨b1, o1 + j * 2, none⟩)) rfl rfl (by kernel_rfl) (by kernel_rfl) (by kernel_rfl) (fun _ _ _ h => h) (by rfl) (fun W hSw => by go_simp) C0 ?_
              simp only [Act.put, List.setIfInBounds_toArray, List.set_cons_zero, List.set_cons_succ]
              refine take_at 4 (some 41) (.pointer (some ⟨b1, o1 + j * 2, none⟩)) rfl rfl (by kernel_rfl) (by kernel_rfl) (by kernel_rfl) (fun _ _ _ h => h) (by rfl) (fun W hSw => by go_simp) C0 ?_
              simp only [Act.put, List.setIfInBounds_toArray, List.set_cons_zero, List.set_cons_succ]
              refine take_at 5 (some 42) (tx p1) rfl rfl (by kernel_rfl) (by kernel_rfl) (by kernel_rfl) (fun _ _ _ h => h) (by rfl) (fun W hSw => by have c0 := m0 W hSw; go_simp) C0 ?_
              simp only [Act.put, List.setIfInBounds_toArray, List.set_cons_zero, List.set_cons_succ]
              refine take_at 6 (some 43) (tx t1) rfl rfl (by kernel_rfl) (by kernel_rfl) (by kernel_rfl) (fun _ _ _ h => h) (by rfl) (fun W hSw => exec_add rfl tc p1 rfl rfl (by omega) t1 H1.out W) C0 ?_
              simp only [Act.put, List.setIfInBounds_toArray, List.set_cons_zero, List.set_cons_succ]
              refine take_at 7 (some 44) (tx t2) rfl rfl (by kernel_rfl) (by kernel_rfl) (by kernel_rfl) (fun _ _ _ h => h) (by rfl) (fun W hSw => exec_add rfl t1 [61] rfl rfl (by simp; omega) t2 H2.out W) C0 ?_
              simp only [Act.put, List.setIfInBounds_toArray, List.set_cons_zero, List.set_cons_succ]
              refine take_at 8 (some 45) (.slice (some ⟨b1, o1, none⟩) n c) rfl rfl (by kernel_rfl) (by kernel_rfl) (by kernel_rfl) (fun _ _ _ h => h) (by rfl) (fun W hSw => by go_simp) C0 ?_
              simp only [Act.put, List.setIfInBounds_toArray, List.set_cons_zero, List.set_cons_succ]
              refine take_at 9 (some 46) (.int .i64 j) rfl rfl (by kernel_rfl) (by kernel_rfl) (by kernel_rfl) (fun _ _ _ h => h) (by rfl) (fun W hSw => by go_simp) C0 ?_
              simp only [Act.put, List.setIfInBounds_toArray, List.set_cons_zero, List.set_cons_succ]
              refine take_at 10 (some 47) (.pointer (some ⟨b1, o1 + j * 2, none⟩)) rfl rfl (by kernel_rfl) (by kernel_rfl) (by kernel_rfl) (fun _ _ _ h => h) (by rfl) (fun W hSw => by go_simp) C0 ?_
              simp only [Act.put, List.setIfInBounds_toArray, List.set_cons_zero, List.set_cons_succ]
              refine take_at 11 (some 48) (.pointer (some ⟨b1, o1 + j * 2 + 1, none⟩)) rfl rfl (by kernel_rfl) (by kernel_rfl) (by kernel_rfl) (fun _ _ _ h => h) (by rfl) (fun W hSw => by go_simp) C0 ?_
              simp only [Act.put, List.setIfInBounds_toArray, List.set_cons_zero, List.set_cons_succ]
              refine take_at 12 (some 49) (tx p2) rfl rfl (by kernel_rfl) (by kernel_rfl) (by kernel_rfl) (fun _ _ _ h => h) (by rfl) (fun W hSw => by have c1 := m1 W hSw; go_simp) C0 ?_
              simp only [Act.put, List.setIfInBounds_toArray, List.set_cons_zero, List.set_cons_succ]
              refine wpAnyH_ready (rs := [13]) (by kernel_rfl) (by simp) ?_
              refine AllReadyH.cons rfl (fun K hK => ?_) AllReadyH.nil
              go_simp
              refine (hqt _).mono ?_
              rintro e w8 ⟨rfl, rfl⟩
              refine hK.out _ _ ?_ (fun _ => ?_)
              · exact C0
              clear hK K
              refine take_at 14 (some 51) (tx t3) rfl rfl (by kernel_rfl) (by kernel_rfl) (by kernel_rfl) (fun _ _ _ h => h) (by rfl) (fun W hSw => exec_add rfl t2 qv rfl rfl (by omega) t3 H3.out W) C0 ?_
              simp only [Act.put, List.setIfInBounds_toArray, List.set_cons_zero, List.set_cons_succ]
              refine take_at 15 (some 4) (tx t3) rfl rfl (by kernel_rfl) (by kernel_rfl) (by kernel_rfl) (fun _ _ _ h => h) (by rfl) (fun W hSw => by go_simp) C0 ?_
              simp only [Act.put, List.setIfInBounds_toArray, List.set_cons_zero, List.set_cons_succ]
              refine wpAnyH_done (by kernel_rfl) ?_ _
              refine NoPanic.normal ?_
              go_wp2
              go_roundw
              case rel => exact ⟨j + 1, t3, by omega, by go_num, by rw [HLN.out]; go_num, rfl, HN, Below.chain hb C0⟩
              case measure => simp [intOf]; omega
        · have HTL : Hid (oth true (l.take j) = others l) := by show _ = _; rw [List.take_of_length_le (by rw [HL.out]; omega), HO.out]
          rw [HTL.out] at HT hol ⊢
          clear HTL HO hcell hat hle
          obtain ⟨os, hos⟩ : ∃ q, q = others l := ⟨_, rfl⟩
          rw [← hos] at HT HR hol ⊢
          clear hos
          obtain ⟨ta, hta⟩ : ∃ q, q = [123] ++ t := ⟨_, rfl⟩
          obtain ⟨tb, htb⟩ : ∃ q, q = ta ++ [125] := ⟨_, rfl⟩
          have a1 : (⟨#[123]⟩ : ByteArray) ++ ⟨t.toArray⟩ = ⟨ta.toArray⟩ := by rw [hta]; exact ba_append [123] t
          have a2 : (⟨ta.toArray⟩ : ByteArray) ++ ⟨#[125]⟩ = ⟨tb.toArray⟩ := by rw [htb]; exact ba_append ta [125]
          have g1 : ta.length ≤ 680 := by rw [hta]; simp; omega
          have g2 : tb.length ≤ 690 := by rw [htb]; simp; omega
          have a3 : (⟨(g : Str).toArray⟩ : ByteArray) ++ ⟨tb.toArray⟩ = ⟨((g : Str) ++ tb).toArray⟩ := ba_append _ _
          have a4 : (⟨(g : Str).toArray⟩ : ByteArray) ++ ⟨t.toArray⟩ = ⟨((g : Str) ++ t).toArray⟩ := ba_append _ _
          have HF : Hid ((g : Str) ++ tb = g ++ [123] ++ inner os ++ [125]) := by show _ = _; rw [htb, hta, HT.out]; simp
          by_cases hoe : os = []
          · have ho0 : ¬ (0 : Int) < (os.length : Nat) := by rw [hoe]; simp
            have HE : Hid (fPrint l = g ++ t) := by show _ = _; rw [HR.out, if_pos ⟨by simpa using hMe, hoe⟩, HT.out, hoe]; simp [inner, Lib.join]
            clear HR HF hta htb HT hoe
            obtain ⟨r, hr⟩ : ∃ q, q = g ++ t := ⟨_, rfl⟩
            rw [← hr] at HE a4
            clear hr
            generalize os.length = N at *
            go_wp2_with fail
            go_ret
            exact ⟨by rw [HE.out]; rfl, hb⟩
          · have ho0 : (0 : Int) < (os.length : Nat) := by have := List.length_pos_iff.2 hoe; omega
            have HE : Hid (fPrint l = g ++ tb) := by show _ = _; rw [HR.out, if_neg (fun h => hoe h.2), HF.out]
            clear HR HF hta htb HT hoe
            obtain ⟨r, hr⟩ : ∃ q, q = g ++ tb := ⟨_, rfl⟩
            rw [← hr] at HE a3
            clear hr
            generalize os.length = N at *
            go_wp2_with fail
            go_ret
            exact ⟨by rw [HE.out]; rfl, hb⟩
    | false =>
      have hMg : M = [] := by rw [HME.out]; rfl
      subst hMg
      clear HME hne hMd his hgt
      go_wp2_with fail
      refine (hnm _).mono ?_
      rintro e w' ⟨rfl, rfl⟩
      go_wp2_with fail
      go_loopw [6, 5, 4] (fun i u s wr => ∃ (j : Nat) (t : Str), j ≤ n ∧ i = .int .i64 j ∧ u = .int .i64 ((oth false (l.take j)).length : Nat) ∧ s = tx t ∧ Hid (t = inner (oth false (l.take j))) ∧ Below w.heap.size w wr) (fun i _ _ _ => n - (intOf i).toNat)
      case atStart => exact ⟨0, [], by omega, rfl, rfl, rfl, rfl, hb1⟩
      case round =>
        obtain ⟨j, t, hj, rfl, rfl, rfl, HT, hb⟩ := hrel
        have htl : t.length ≤ 672 := by rw [HT.out]; exact hle j hj
        have hol := oth_le false l j
        by_cases hlt : j < n
        · obtain ⟨b1, o1, rfl, h1⟩ := hcell (by omega)
          obtain ⟨c10, c11⟩ := h1 j hlt
          have m0 : ∀ W, Below wr.heap.size wr W → W.cell? ⟨b1, o1 + j * 2, none⟩ = some (tx (l.getD j ([], [])).1) := fun W hW => ((Below.chain hb hW).cell (p := ⟨b1, o1 + j * 2, none⟩) (World.block_lt_of_cell? _ _ c10)).trans c10
          have m1 : ∀ W, Below wr.heap.size wr W → W.cell? ⟨b1, o1 + j * 2 + 1, none⟩ = some (tx (l.getD j ([], [])).2) := fun W hW => ((Below.chain hb hW).cell (p := ⟨b1, o1 + j * 2 + 1, none⟩) (World.block_lt_of_cell? _ _ c11)).trans c11
          have k0 := m0 wr (Below.refl _ _)
          have HI : Hid _ := oth_in (mt := false) (l := l) (j := j) (by rw [HL.out]; exact hlt)
          have HX : Hid _ := oth_out (mt := false) (l := l) (j := j) (by rw [HL.out]; exact hlt)
          have hpl := hat j hlt
          clear h1 hcell c10 c11 hat HR HO hx
          generalize l.getD j ([], []) = p at *
          obtain ⟨p1, p2⟩ := p
          dsimp only at *
          have hqt := fun (W : World) => refQuote_any p2 W (by omega)
          have hql : ([34] ++ esc p2 ++ [34]).length ≤ 62 := by have := esc_len p2; simp; omega
          have HP : Hid (inner [(p1, p2)] = p1 ++ [61] ++ ([34] ++ esc p2 ++ [34])) := by show _ = _; rw [inner_one]; unfold pairT; simp
          have HP2 : Hid (oth false (l.take j) ≠ [] → inner (oth false (l.take j) ++ [(p1, p2)]) = inner (oth false (l.take j)) ++ [44] ++ (p1 ++ [61] ++ ([34] ++ esc p2 ++ [34]))) := fun h => by rw [inner_snoc _ _ h]; unfold pairT; simp
          obtain ⟨qv, hqv⟩ : ∃ q, q = [34] ++ esc p2 ++ [34] := ⟨_, rfl⟩
          rw [← hqv] at hqt hql HP HP2
          clear hqv
          have HJ : Hid _ := HI.out (fun h => by cases h.2)
          clear HI HX
          by_cases hpn : p1 = nm
          · have hpn' : (p1 == [95, 95, 110, 97, 109, 101, 95, 95]) = true := by simpa [nm] using hpn
            clear hpn
            by_cases hz : oth false (l.take j) = []
            · have hz0 : ((oth false (l.take j)).length : Int) = 0 := by rw [hz]; rfl
              have hz1 : ¬ (0 : Int) < ((oth false (l.take j)).length : Nat) := by omega
              have hlen : (oth false (l.take (j + 1))).length = (oth false (l.take j)).length + 1 := by rw [HJ.out]; simp
              have hte : t = [] := by rw [HT.out, hz]; rfl
              obtain ⟨t1, ht1⟩ : ∃ q, q = t ++ p1 := ⟨_, rfl⟩
              have H1 : Hid _ := ht1
              obtain ⟨t2, ht2⟩ : ∃ q, q = t1 ++ [61] := ⟨_, rfl⟩
              have H2 : Hid _ := ht2
              obtain ⟨t3, ht3⟩ : ∃ q, q = t2 ++ qv := ⟨_, rfl⟩
              have H3 : Hid _ := ht3
              have g1 : t1.length = t.length + p1.length := by rw [ht1]; simp
              have g2 : t2.length = t1.length + 1 := by rw [ht2]; simp
              have HN : Hid (t3 = inner (oth false (l.take (j + 1)))) := by show _ = _; rw [HJ.out, hz, List.nil_append, HP.out, ht3, ht2, ht1, hte]; rfl
              have HLN : Hid _ := hlen
              have G1 : t1.length ≤ 700 := by omega
              have G2 : t2.length ≤ 701 := by omega
              clear hz hz0 hlen hte ht1 ht2 ht3 g1 g2 HT HP HP2 HJ
              generalize (oth false (l.take j)).length = N at *
              go_wp2_with fail
              have C0 : Below wr.heap.size wr wr.drew := (Below.refl _ _).drew
              refine wp_region_noPanic ?_
              refine wp_region_held_drew (S := fun W => Below wr.heap.size wr W) (by kernel_rfl) ?_ (fun _ => ?_)
              · exact C0
              generalize wr.drew = wd at *
              refine take_at 0 (some 37) (tx t) rfl rfl (by kernel_rfl) (by kernel_rfl) (by kernel_rfl) (fun _ _ _ h => h) (by rfl) (fun W hSw => by go_simp) C0 ?_
              simp only [Act.put, List.setIfInBounds_toArray, List.set_cons_zero, List.set_cons_succ]
              refine take_at 1 (some 38) (.slice (some ⟨b1, o1, none⟩) n c) rfl rfl (by kernel_rfl) (by kernel_rfl) (by kernel_rfl) (fun _ _ _ h => h) (by rfl) (fun W hSw => by go_simp) C0 ?_
              simp only [Act.put, List.setIfInBounds_toArray, List.set_cons_zero, List.set_cons_succ]
              refine take_at 2 (some 39) (.int .i64 j) rfl rfl (by kernel_rfl) (by kernel_rfl) (by kernel_rfl) (fun _ _ _ h => h) (by rfl) (fun W hSw => by go_simp) C0 ?_
              simp only [Act.put, List.setIfInBounds_toArray, List.set_cons_zero, List.set_cons_succ]
              refine take_at 3 (some 40) (.pointer (some ⟨b1, o1 + j * 2, none⟩)) rfl rfl (by kernel_rfl) (by kernel_rfl) (by kernel_rfl) (fun _ _ _ h => h) (by rfl) (fun W hSw => by go_simp) C0 ?_
              simp only [Act.put, List.setIfInBounds_toArray, List.set_cons_zero, List.set_cons_succ]
              refine take_at 4 (some 41) (.pointer (some ⟨b1, o1 + j * 2, none⟩)) rfl rfl (by kernel_rfl) (by kernel_rfl) (by kernel_rfl) (fun _ _ _ h => h) (by rfl) (fun W hSw => by go_simp) C0 ?_
              simp only [Act.put, List.setIfInBounds_toArray, List.set_cons_zero, List.set_cons_succ]
              refine take_at 5 (some 42) (tx p1) rfl rfl (by kernel_rfl) (by kernel_rfl) (by kernel_rfl) (fun _ _ _ h => h) (by rfl) (fun W hSw => by have c0 := m0 W hSw; go_simp) C0 ?_
              simp only [Act.put, List.setIfInBounds_toArray, List.set_cons_zero, List.set_cons_succ]
              refine take_at 6 (some 43) (tx t1) rfl rfl (by kernel_rfl) (by kernel_rfl) (by kernel_rfl) (fun _ _ _ h => h) (by rfl) (fun W hSw => exec_add rfl t p1 rfl rfl (by omega) t1 H1.out W) C0 ?_
              simp only [Act.put, List.setIfInBounds_toArray, List.set_cons_zero, List.set_cons_succ]
              refine take_at 7 (some 44) (tx t2) rfl rfl (by kernel_rfl) (by kernel_rfl) (by kernel_rfl) (fun _ _ _ h => h) (by rfl) (fun W hSw => exec_add rfl t1 [61] rfl rfl (by simp; omega) t2 H2.out W) C0 ?_
              simp only [Act.put, List.setIfInBounds_toArray, List.set_cons_zero, List.set_cons_succ]
              refine take_at 8 (some 45) (.slice (some ⟨b1, o1, none⟩) n c) rfl rfl (by kernel_rfl) (by kernel_rfl) (by kernel_rfl) (fun _ _ _ h => h) (by rfl) (fun W hSw => by go_simp) C0 ?_
              simp only [Act.put, List.setIfInBounds_toArray, List.set_cons_zero, List.set_cons_succ]
              refine take_at 9 (some 46) (.int .i64 j) rfl rfl (by kernel_rfl) (by kernel_rfl) (by kernel_rfl) (fun _ _ _ h => h) (by rfl) (fun W hSw => by go_simp) C0 ?_
              simp only [Act.put, List.setIfInBounds_toArray, List.set_cons_zero, List.set_cons_succ]
              refine take_at 10 (some 47) (.pointer (some ⟨b1, o1 + j * 2, none⟩)) rfl rfl (by kernel_rfl) (by kernel_rfl) (by kernel_rfl) (fun _ _ _ h => h) (by rfl) (fun W hSw => by go_simp) C0 ?_
              simp only [Act.put, List.setIfInBounds_toArray, List.set_cons_zero, List.set_cons_succ]
              refine take_at 11 (some 48) (.pointer (some ⟨b1, o1 + j * 2 + 1, none⟩)) rfl rfl (by kernel_rfl) (by kernel_rfl) (by kernel_rfl) (fun _ _ _ h => h) (by rfl) (fun W hSw => by go_simp) C0 ?_
              simp only [Act.put, List.setIfInBounds_toArray, List.set_cons_zero, List.set_cons_succ]
              refine take_at 12 (some 49) (tx p2) rfl rfl (by kernel_rfl) (by kernel_rfl) (by kernel_rfl) (fun _ _ _ h => h) (by rfl) (fun W hSw => by have c1 := m1 W hSw; go_simp) C0 ?_
              simp only [Act.put, List.setIfInBounds_toArray, List.set_cons_zero, List.set_cons_succ]
              refine wpAnyH_ready (rs := [13]) (by kernel_rfl) (by simp) ?_
              refine AllReadyH.cons rfl (fun K hK => ?_) AllReadyH.nil
              go_simp
              refine (hqt _).mono ?_
              rintro e w8 ⟨rfl, rfl⟩
              refine hK.out _ _ ?_ (fun _ => ?_)
              · exact C0
              clear hK K
              refine take_at 14 (some 51) (tx t3) rfl rfl (by kernel_rfl) (by kernel_rfl) (by kernel_rfl) (fun _ _ _ h => h) (by rfl) (fun W hSw => exec_add rfl t2 qv rfl rfl (by omega) t3 H3.out W) C0 ?_
              simp only [Act.put, List.setIfInBounds_toArray, List.set_cons_zero, List.set_cons_succ]
              refine take_at 15 (some 4) (tx t3) rfl rfl (by kernel_rfl) (by kernel_rfl) (by kernel_rfl) (fun _ _ _ h => h) (by rfl) (fun W hSw => by go_simp) C0 ?_
              simp only [Act.put, List.setIfInBounds_toArray, List.set_cons_zero, List.set_cons_succ]
              refine wpAnyH_done (by kernel_rfl) ?_ _
              refine NoPanic.normal ?_
              go_wp2
              go_roundw
              case rel => exact ⟨j + 1, t3, by omega, by go_num, by rw [HLN.out]; go_num, rfl, HN, Below.chain hb C0⟩
              case measure => simp [intOf]; omega
            · have hz1 : (0 : Int) < ((oth false (l.take j)).length : Nat) := by have := List.length_pos_iff.2 hz; omega
              have hlen : (oth false (l.take (j + 1))).length = (oth false (l.take j)).length + 1 := by rw [HJ.out]; simp
              obtain ⟨tc, htc⟩ : ∃ q, q = t ++ [44] := ⟨_, rfl⟩
              have a1 : (⟨t.toArray⟩ : ByteArray) ++ ⟨#[44]⟩ = ⟨tc.toArray⟩ := by rw [htc]; exact ba_append t [44]
              obtain ⟨t1, ht1⟩ : ∃ q, q = tc ++ p1 := ⟨_, rfl⟩
              have H1 : Hid _ := ht1
              obtain ⟨t2, ht2⟩ : ∃ q, q = t1 ++ [61] := ⟨_, rfl⟩
              have H2 : Hid _ := ht2
              obtain ⟨t3, ht3⟩ : ∃ q, q = t2 ++ qv := ⟨_, rfl⟩
              have H3 : Hid _ := ht3
              have g0 : tc.length = t.length + 1 := by rw [htc]; simp
              have g1 : t1.length = tc.length + p1.length := by rw [ht1]; simp
              have g2 : t2.length = t1.length + 1 := by rw [ht2]; simp
              have HN : Hid (t3 = inner (oth false (l.take (j + 1)))) := by show _ = _; rw [HJ.out, HP2.out hz, ht3, ht2, ht1, htc, HT.out]; simp
              have HLN : Hid _ := hlen
              have G0 : tc.length ≤ 680 := by omega
              have G1 : t1.length ≤ 700 := by omega
              have G2 : t2.length ≤ 701 := by omega
              clear hz hlen htc ht1 ht2 ht3 g0 g1 g2 HT HP HP2 HJ
              generalize (oth false (l.take j)).length = N at *
              go_wp2_with fail
              have C0 : Below wr.heap.size wr wr.drew := (Below.refl _ _).drew
              refine wp_region_noPanic ?_
              refine wp_region_held_drew (S := fun W => Below wr.heap.size wr W) (by kernel_rfl) ?_ (fun _ => ?_)
              · exact C0
              generalize wr.drew = wd at *
              refine take_at 0 (some 37) (tx tc) rfl rfl (by kernel_rfl) (by kernel_rfl) (by kernel_rfl) (fun _ _ _ h => h) (by rfl) (fun W hSw => by go_simp) C0 ?_
              simp only [Act.put, List.setIfInBounds_toArray, List.set_cons_zero, List.set_cons_succ]
              refine take_at 1 (some 38) (.slice (some ⟨b1, o1, none⟩) n c) rfl rfl (by kernel_rfl) (by kernel_rfl) (by kernel_rfl) (fun _ _ _ h => h) (by rfl) (fun W hSw => by go_simp) C0 ?_
              simp only [Act.put, List.setIfInBounds_toArray, List.set_cons_zero, List.set_cons_succ]
              refine take_at 2 (some 39) (.int .i64 j) rfl rfl (by kernel_rfl) (by kernel_rfl) (by kernel_rfl) (fun _ _ _ h => h) (by rfl) (fun W hSw => by go_simp) C0 ?_
              simp only [Act.put, List.setIfInBounds_toArray, List.set_cons_zero, List.set_cons_succ]
              refine take_at 3 (some 40) (.pointer (some ⟨b1, o1 + j * 2, none⟩)) rfl rfl (by kernel_rfl) (by kernel_rfl) (by kernel_rfl) (fun _ _ _ h => h) (by rfl) (fun W hSw => by go_simp) C0 ?_
              simp only [Act.put, List.setIfInBounds_toArray, List.set_cons_zero, List.set_cons_succ]
              refine take_at 4 (some 41) (.pointer (some ⟨b1, o1 + j * 2, none⟩)) rfl rfl (by kernel_rfl) (by kernel_rfl) (by kernel_rfl) (fun _ _ _ h => h) (by rfl) (fun W hSw => by go_simp) C0 ?_
              simp only [Act.put, List.setIfInBounds_toArray, List.set_cons_zero, List.set_cons_succ]
              refine take_at 5 (some 42) (tx p1) rfl rfl (by kernel_rfl) (by kernel_rfl) (by kernel_rfl) (fun _ _ _ h => h) (by rfl) (fun W hSw => by have c0 := m0 W hSw; go_simp) C0 ?_
              simp only [Act.put, List.setIfInBounds_toArray, List.set_cons_zero, List.set_cons_succ]
              refine take_at 6 (some 43) (tx t1) rfl rfl (by kernel_rfl) (by kernel_rfl) (by kernel_rfl) (fun _ _ _ h => h) (by rfl) (fun W hSw => exec_add rfl tc p1 rfl rfl (by omega) t1 H1.out W) C0 ?_
              simp only [Act.put, List.setIfInBounds_toArray, List.set_cons_zero, List.set_cons_succ]
              refine take_at 7 (some 44) (tx t2) rfl rfl (by kernel_rfl) (by kernel_rfl) (by kernel_rfl) (fun _ _ _ h => h) (by rfl) (fun W hSw => exec_add rfl t1 [61] rfl rfl (by simp; omega) t2 H2.out W) C0 ?_
              simp only [Act.put, List.setIfInBounds_toArray, List.set_cons_zero, List.set_cons_succ]
              refine take_at 8 (some 45) (.slice (some ⟨b1, o1, none⟩) n c) rfl rfl (by kernel_rfl) (by kernel_rfl) (by kernel_rfl) (fun _ _ _ h => h) (by rfl) (fun W hSw => by go_simp) C0 ?_
              simp only [Act.put, List.setIfInBounds_toArray, List.set_cons_zero, List.set_cons_succ]
              refine take_at 9 (some 46) (.int .i64 j) rfl rfl (by kernel_rfl) (by kernel_rfl) (by kernel_rfl) (fun _ _ _ h => h) (by rfl) (fun W hSw => by go_simp) C0 ?_
              simp only [Act.put, List.setIfInBounds_toArray, List.set_cons_zero, List.set_cons_succ]
              refine take_at 10 (some 47) (.pointer (some ⟨b1, o1 + j * 2, none⟩)) rfl rfl (by kernel_rfl) (by kernel_rfl) (by kernel_rfl) (fun _ _ _ h => h) (by rfl) (fun W hSw => by go_simp) C0 ?_
              simp only [Act.put, List.setIfInBounds_toArray, List.set_cons_zero, List.set_cons_succ]
              refine take_at 11 (some 48) (.pointer (some ⟨b1, o1 + j * 2 + 1, none⟩)) rfl rfl (by kernel_rfl) (by kernel_rfl) (by kernel_rfl) (fun _ _ _ h => h) (by rfl) (fun W hSw => by go_simp) C0 ?_
              simp only [Act.put, List.setIfInBounds_toArray, List.set_cons_zero, List.set_cons_succ]
              refine take_at 12 (some 49) (tx p2) rfl rfl (by kernel_rfl) (by kernel_rfl) (by kernel_rfl) (fun _ _ _ h => h) (by rfl) (fun W hSw => by have c1 := m1 W hSw; go_simp) C0 ?_
              simp only [Act.put, List.setIfInBounds_toArray, List.set_cons_zero, List.set_cons_succ]
              refine wpAnyH_ready (rs := [13]) (by kernel_rfl) (by simp) ?_
              refine AllReadyH.cons rfl (fun K hK => ?_) AllReadyH.nil
              go_simp
              refine (hqt _).mono ?_
              rintro e w8 ⟨rfl, rfl⟩
              refine hK.out _ _ ?_ (fun _ => ?_)
              · exact C0
              clear hK K
              refine take_at 14 (some 51) (tx t3) rfl rfl (by kernel_rfl) (by kernel_rfl) (by kernel_rfl) (fun _ _ _ h => h) (by rfl) (fun W hSw => exec_add rfl t2 qv rfl rfl (by omega) t3 H3.out W) C0 ?_
              simp only [Act.put, List.setIfInBounds_toArray, List.set_cons_zero, List.set_cons_succ]
              refine take_at 15 (some 4) (tx t3) rfl rfl (by kernel_rfl) (by kernel_rfl) (by kernel_rfl) (fun _ _ _ h => h) (by rfl) (fun W hSw => by go_simp) C0 ?_
              simp only [Act.put, List.setIfInBounds_toArray, List.set_cons_zero, List.set_cons_succ]
              refine wpAnyH_done (by kernel_rfl) ?_ _
              refine NoPanic.normal ?_
              go_wp2
              go_roundw
              case rel => exact ⟨j + 1, t3, by omega, by go_num, by rw [HLN.out]; go_num, rfl, HN, Below.chain hb C0⟩
              case measure => simp [intOf]; omega
          · have hpn' : (p1 == [95, 95, 110, 97, 109, 101, 95, 95]) = false := by simpa [nm] using hpn
            clear hpn
            by_cases hz : oth false (l.take j) = []
            · have hz0 : ((oth false (l.take j)).length : Int) = 0 := by rw [hz]; rfl
              have hz1 : ¬ (0 : Int) < ((oth false (l.take j)).length : Nat) := by omega
              have hlen : (oth false (l.take (j + 1))).length = (oth false (l.take j)).length + 1 := by rw [HJ.out]; simp
              have hte : t = [] := by rw [HT.out, hz]; rfl
              obtain ⟨t1, ht1⟩ : ∃ q, q = t ++ p1 := ⟨_, rfl⟩
              have H1 : Hid _ := ht1
              obtain ⟨t2, ht2⟩ : ∃ q, q = t1 ++ [61] := ⟨_, rfl⟩
              have H2 : Hid _ := ht2
              obtain ⟨t3, ht3⟩ : ∃ q, q = t2 ++ qv := ⟨_, rfl⟩
              have H3 : Hid _ := ht3
              have g1 : t1.length = t.length + p1.length := by rw [ht1]; simp
              have g2 : t2.length = t1.length + 1 := by rw [ht2]; simp
              have HN : Hid (t3 = inner (oth false (l.take (j + 1)))) := by show _ = _; rw [HJ.out, hz, List.nil_append, HP.out, ht3, ht2, ht1, hte]; rfl
              have HLN : Hid _ := hlen
              have G1 : t1.length ≤ 700 := by omega
              have G2 : t2.length ≤ 701 := by omega
              clear hz hz0 hlen hte ht1 ht2 ht3 g1 g2 HT HP HP2 HJ
              generalize (oth false (l.take j)).length = N at *
              go_wp2_with fail
              have C0 : Below wr.heap.size wr wr.drew := (Below.refl _ _).drew
              refine wp_region_noPanic ?_
              refine wp_region_held_drew (S := fun W => Below wr.heap.size wr W) (by kernel_rfl) ?_ (fun _ => ?_)
              · exact C0
              generalize wr.drew = wd at *
              refine take_at 0 (some 37) (tx t) rfl rfl (by kernel_rfl) (by kernel_rfl) (by kernel_rfl) (fun _ _ _ h => h) (by rfl) (fun W hSw => by go_simp) C0 ?_
              simp only [Act.put, List.setIfInBounds_toArray, List.set_cons_zero, List.set_cons_succ]
              refine take_at 1 (some 38) (.slice (some ⟨b1, o1, none⟩) n c) rfl rfl (by kernel_rfl) (by kernel_rfl) (by kernel_rfl) (fun _ _ _ h => h) (by rfl) (fun W hSw => by go_simp) C0 ?_
              simp only [Act.put, List.setIfInBounds_toArray, List.set_cons_zero, List.set_cons_succ]
              refine take_at 2 (some 39) (.int .i64 j) rfl rfl (by kernel_rfl) (by kernel_rfl) (by kernel_rfl) (fun _ _ _ h => h) (by rfl) (fun W hSw => by go_simp) C0 ?_
              simp only [Act.put, List.setIfInBounds_toArray, List.set_cons_zero, List.set_cons_succ]
              refine take_at 3 (some 40) (.pointer (some ⟨b1, o1 + j * 2, none⟩)) rfl rfl (by kernel_rfl) (by kernel_rfl) (by kernel_rfl) (fun _ _ _ h => h) (by rfl) (fun W hSw => by go_simp) C0 ?_
              simp only [Act.put, List.setIfInBounds_toArray, List.set_cons_zero, List.set_cons_succ]
              refine take_at 4 (some 41) (.pointer (some ⟨b1, o1 + j * 2, none⟩)) rfl rfl (by kernel_rfl) (by kernel_rfl) (by kernel_rfl) (fun _ _ _ h => h) (by rfl) (fun W hSw => by go_simp) C0 ?_
              simp only [Act.put, List.setIfInBounds_toArray, List.set_cons_zero, List.set_cons_succ]
              refine take_at 5 (some 42) (tx p1) rfl rfl (by kernel_rfl) (by kernel_rfl) (by kernel_rfl) (fun _ _ _ h => h) (by rfl) (fun W hSw => by have c0 := m0 W hSw; go_simp) C0 ?_
              simp only [Act.put, List.setIfInBounds_toArray, List.set_cons_zero, List.set_cons_succ]
              refine take_at 6 (some 43) (tx t1) rfl rfl (by kernel_rfl) (by kernel_rfl) (by kernel_rfl) (fun _ _ _ h => h) (by rfl) (fun W hSw => exec_add rfl t p1 rfl rfl (by omega) t1 H1.out W) C0 ?_
              simp only [Act.put, List.setIfInBounds_toArray, List.set_cons_zero, List.set_cons_succ]
              refine take_at 7 (some 44) (tx t2) rfl rfl (by kernel_rfl) (by kernel_rfl) (by kernel_rfl) (fun _ _ _ h => h) (by rfl) (fun W hSw => exec_add rfl t1 [61] rfl rfl (by simp; omega) t2 H2.out W) C0 ?_
              simp only [Act.put, List.setIfInBounds_toArray, List.set_cons_zero, List.set_cons_succ]
              refine take_at 8 (some 45) (.slice (some ⟨b1, o1, none⟩) n c) rfl rfl (by kernel_rfl) (by kernel_rfl) (by kernel_rfl) (fun _ _ _ h => h) (by rfl) (fun W hSw => by go_simp) C0 ?_
              simp only [Act.put, List.setIfInBounds_toArray, List.set_cons_zero, List.set_cons_succ]
              refine take_at 9 (some 46) (.int .i64 j) rfl rfl (by kernel_rfl) (by kernel_rfl) (by kernel_rfl) (fun _ _ _ h => h) (by rfl) (fun W hSw => by go_simp) C0 ?_
              simp only [Act.put, List.setIfInBounds_toArray, List.set_cons_zero, List.set_cons_succ]
              refine take_at 10 (some 47) (.pointer (some ⟨b1, o1 + j * 2, none⟩)) rfl rfl (by kernel_rfl) (by kernel_rfl) (by kernel_rfl) (fun _ _ _ h => h) (by rfl) (fun W hSw => by go_simp) C0 ?_
              simp only [Act.put, List.setIfInBounds_toArray, List.set_cons_zero, List.set_cons_succ]
              refine take_at 11 (some 48) (.pointer (some ⟨b1, o1 + j * 2 + 1, none⟩)) rfl rfl (by kernel_rfl) (by kernel_rfl) (by kernel_rfl) (fun _ _ _ h => h) (by rfl) (fun W hSw => by go_simp) C0 ?_
              simp only [Act.put, List.setIfInBounds_toArray, List.set_cons_zero, List.set_cons_succ]
              refine take_at 12 (some 49) (tx p2) rfl rfl (by kernel_rfl) (by kernel_rfl) (by kernel_rfl) (fun _ _ _ h => h) (by rfl) (fun W hSw => by have c1 := m1 W hSw; go_simp) C0 ?_
              simp only [Act.put, List.setIfInBounds_toArray, List.set_cons_zero, List.set_cons_succ]
              refine wpAnyH_ready (rs := [13]) (by kernel_rfl) (by simp) ?_
              refine AllReadyH.cons rfl (fun K hK => ?_) AllReadyH.nil
              go_simp
              refine (hqt _).mono ?_
              rintro e w8 ⟨rfl, rfl⟩
              refine hK.out _ _ ?_ (fun _ => ?_)
              · exact C0
              clear hK K
              refine take_at 14 (some 51) (tx t3) rfl rfl (by kernel_rfl) (by kernel_rfl) (by kernel_rfl) (fun _ _ _ h => h) (by rfl) (fun W hSw => exec_add rfl t2 qv rfl rfl (by omega) t3 H3.out W) C0 ?_
              simp only [Act.put, List.setIfInBounds_toArray, List.set_cons_zero, List.set_cons_succ]
              refine take_at 15 (some 4) (tx t3) rfl rfl (by kernel_rfl) (by kernel_rfl) (by kernel_rfl) (fun _ _ _ h => h) (by rfl) (fun W hSw => by go_simp) C0 ?_
              simp only [Act.put, List.setIfInBounds_toArray, List.set_cons_zero, List.set_cons_succ]
              refine wpAnyH_done (by kernel_rfl) ?_ _
              refine NoPanic.normal ?_
              go_wp2
              go_roundw
              case rel => exact ⟨j + 1, t3, by omega, by go_num, by rw [HLN.out]; go_num, rfl, HN, Below.chain hb C0⟩
              case measure => simp [intOf]; omega
            · have hz1 : (0 : Int) < ((oth false (l.take j)).length : Nat) := by have := List.length_pos_iff.2 hz; omega
              have hlen : (oth false (l.take (j + 1))).length = (oth false (l.take j)).length + 1 := by rw [HJ.out]; simp
              obtain ⟨tc, htc⟩ : ∃ q, q = t ++ [44] := ⟨_, rfl⟩
              have a1 : (⟨t.toArray⟩ : ByteArray) ++ ⟨#[44]⟩ = ⟨tc.toArray⟩ := by rw [htc]; exact ba_append t [44]
              obtain ⟨t1, ht1⟩ : ∃ q, q = tc ++ p1 := ⟨_, rfl⟩
              have H1 : Hid _ := ht1
              obtain ⟨t2, ht2⟩ : ∃ q, q = t1 ++ [61] := ⟨_, rfl⟩
              have H2 : Hid _ := ht2
              obtain ⟨t3, ht3⟩ : ∃ q, q = t2 ++ qv := ⟨_, rfl⟩
              have H3 : Hid _ := ht3
              have g0 : tc.length = t.length + 1 := by rw [htc]; simp
              have g1 : t1.length = tc.length + p1.length := by rw [ht1]; simp
              have g2 : t2.length = t1.length + 1 := by rw [ht2]; simp
              have HN : Hid (t3 = inner (oth false (l.take (j + 1)))) := by show _ = _; rw [HJ.out, HP2.out hz, ht3, ht2, ht1, htc, HT.out]; simp
              have HLN : Hid _ := hlen
              have G0 : tc.length ≤ 680 := by omega
              have G1 : t1.length ≤ 700 := by omega
              have G2 : t2.length ≤ 701 := by omega
              clear hz hlen htc ht1 ht2 ht3 g0 g1 g2 HT HP HP2 HJ
              generalize (oth false (l.take j)).length = N at *
              go_wp2_with fail
              have C0 : Below wr.heap.size wr wr.drew := (Below.refl _ _).drew
              refine wp_region_noPanic ?_
              refine wp_region_held_drew (S := fun W => Below wr.heap.size wr W) (by kernel_rfl) ?_ (fun _ => ?_)
              · exact C0
              generalize wr.drew = wd at *
              refine take_at 0 (some 37) (tx tc) rfl rfl (by kernel_rfl) (by kernel_rfl) (by kernel_rfl) (fun _ _ _ h => h) (by rfl) (fun W hSw => by go_simp) C0 ?_
              simp only [Act.put, List.setIfInBounds_toArray, List.set_cons_zero, List.set_cons_succ]
              refine take_at 1 (some 38) (.slice (some ⟨b1, o1, none⟩) n c) rfl rfl (by kernel_rfl) (by kernel_rfl) (by kernel_rfl) (fun _ _ _ h => h) (by rfl) (fun W hSw => by go_simp) C0 ?_
              simp only [Act.put, List.setIfInBounds_toArray, List.set_cons_zero, List.set_cons_succ]
              refine take_at 2 (some 39) (.int .i64 j) rfl rfl (by kernel_rfl) (by kernel_rfl) (by kernel_rfl) (fun _ _ _ h => h) (by rfl) (fun W hSw => by go_simp) C0 ?_
              simp only [Act.put, List.setIfInBounds_toArray, List.set_cons_zero, List.set_cons_succ]
              refine take_at 3 (some 40) (.pointer (some ⟨b1, o1 + j * 2, none⟩)) rfl rfl (by kernel_rfl) (by kernel_rfl) (by kernel_rfl) (fun _ _ _ h => h) (by rfl) (fun W hSw => by go_simp) C0 ?_
              simp only [Act.put, List.setIfInBounds_toArray, List.set_cons_zero, List.set_cons_succ]
              refine take_at 4 (some 41) (.pointer (some ⟨b1, o1 + j * 2, none⟩)) rfl rfl (by kernel_rfl) (by kernel_rfl) (by kernel_rfl) (fun _ _ _ h => h) (by rfl) (fun W hSw => by go_simp) C0 ?_
              simp only [Act.put, List.setIfInBounds_toArray, List.set_cons_zero, List.set_cons_succ]
              refine take_at 5 (some 42) (tx p1) rfl rfl (by kernel_rfl) (by kernel_rfl) (by kernel_rfl) (fun _ _ _ h => h) (by rfl) (fun W hSw => by have c0 := m0 W hSw; go_simp) C0 ?_
              simp only [Act.put, List.setIfInBounds_toArray, List.set_cons_zero, List.set_cons_succ]
              refine take_at 6 (some 43) (tx t1) rfl rfl (by kernel_rfl) (by kernel_rfl) (by kernel_rfl) (fun _ _ _ h => h) (by rfl) (fun W hSw => exec_add rfl tc p1 rfl rfl (by omega) t1 H1.out W) C0 ?_
              simp only [Act.put, List.setIfInBounds_toArray, List.set_cons_zero, List.set_cons_succ]
              refine take_at 7 (some 44) (tx t2) rfl rfl (by kernel_rfl) (by kernel_rfl) (by kernel_rfl) (fun _ _ _ h => h) (by rfl) (fun W hSw => exec_add rfl t1 [61] rfl rfl (by simp; omega) t2 H2.out W) C0 ?_
              simp only [Act.put, List.setIfInBounds_toArray, List.set_cons_zero, List.set_cons_succ]
              refine take_at 8 (some 45) (.slice (some ⟨b1, o1, none⟩) n c) rfl rfl (by kernel_rfl) (by kernel_rfl) (by kernel_rfl) (fun _ _ _ h => h) (by rfl) (fun W hSw => by go_simp) C0 ?_
              simp only [Act.put, List.setIfInBounds_toArray, List.set_cons_zero, List.set_cons_succ]
              refine take_at 9 (some 46) (.int .i64 j) rfl rfl (by kernel_rfl) (by kernel_rfl) (by kernel_rfl) (fun _ _ _ h => h) (by rfl) (fun W hSw => by go_simp) C0 ?_
              simp only [Act.put, List.setIfInBounds_toArray, List.set_cons_zero, List.set_cons_succ]
              refine take_at 10 (some 47) (.pointer (some ⟨b1, o1 + j * 2, none⟩)) rfl rfl (by kernel_rfl) (by kernel_rfl) (by kernel_rfl) (fun _ _ _ h => h) (by rfl) (fun W hSw => by go_simp) C0 ?_
              simp only [Act.put, List.setIfInBounds_toArray, List.set_cons_zero, List.set_cons_succ]
              refine take_at 11 (some 48) (.pointer (some ⟨b1, o1 + j * 2 + 1, none⟩)) rfl rfl (by kernel_rfl) (by kernel_rfl) (by kernel_rfl) (fun _ _ _ h => h) (by rfl) (fun W hSw => by go_simp) C0 ?_
              simp only [Act.put, List.setIfInBounds_toArray, List.set_cons_zero, List.set_cons_succ]
              refine take_at 12 (some 49) (tx p2) rfl rfl (by kernel_rfl) (by kernel_rfl) (by kernel_rfl) (fun _ _ _ h => h) (by rfl) (fun W hSw => by have c1 := m1 W hSw; go_simp) C0 ?_
              simp only [Act.put, List.setIfInBounds_toArray, List.set_cons_zero, List.set_cons_succ]
              refine wpAnyH_ready (rs := [13]) (by kernel_rfl) (by simp) ?_
              refine AllReadyH.cons rfl (fun K hK => ?_) AllReadyH.nil
              go_simp
              refine (hqt _).mono ?_
              rintro e w8 ⟨rfl, rfl⟩
              refine hK.out _ _ ?_ (fun _ => ?_)
              · exact C0
              clear hK K
              refine take_at 14 (some 51) (tx t3) rfl rfl (by kernel_rfl) (by kernel_rfl) (by kernel_rfl) (fun _ _ _ h => h) (by rfl) (fun W hSw => exec_add rfl t2 qv rfl rfl (by omega) t3 H3.out W) C0 ?_
              simp only [Act.put, List.setIfInBounds_toArray, List.set_cons_zero, List.set_cons_succ]
              refine take_at 15 (some 4) (tx t3) rfl rfl (by kernel_rfl) (by kernel_rfl) (by kernel_rfl) (fun _ _ _ h => h) (by rfl) (fun W hSw => by go_simp) C0 ?_
              simp only [Act.put, List.setIfInBounds_toArray, List.set_cons_zero, List.set_cons_succ]
              refine wpAnyH_done (by kernel_rfl) ?_ _
              refine NoPanic.normal ?_
              go_wp2
              go_roundw
              case rel => exact ⟨j + 1, t3, by omega, by go_num, by rw [HLN.out]; go_num, rfl, HN, Below.chain hb C0⟩
              case measure => simp [intOf]; omega
        · have HTL : Hid (oth false (l.take j) = others l) := by show _ = _; rw [List.take_of_length_le (by rw [HL.out]; omega), HO.out]
          rw [HTL.out] at HT hol ⊢
          clear HTL HO hcell hat hle
          obtain ⟨os, hos⟩ : ∃ q, q = others l := ⟨_, rfl⟩
          rw [← hos] at HT HR hol ⊢
          clear hos
          obtain ⟨ta, hta⟩ : ∃ q, q = [123] ++ t := ⟨_, rfl⟩
          obtain ⟨tb, htb⟩ : ∃ q, q = ta ++ [125] := ⟨_, rfl⟩
          have a1 : (⟨#[123]⟩ : ByteArray) ++ ⟨t.toArray⟩ = ⟨ta.toArray⟩ := by rw [hta]; exact ba_append [123] t
          have a2 : (⟨ta.toArray⟩ : ByteArray) ++ ⟨#[125]⟩ = ⟨tb.toArray⟩ := by rw [htb]; exact ba_append ta [125]
          have g1 : ta.length ≤ 680 := by rw [hta]; simp; omega
          have g2 : tb.length ≤ 690 := by rw [htb]; simp; omega
          have a3 : (⟨([] : Str).toArray⟩ : ByteArray) ++ ⟨tb.toArray⟩ = ⟨(([] : Str) ++ tb).toArray⟩ := ba_append _ _
          have a4 : (⟨([] : Str).toArray⟩ : ByteArray) ++ ⟨t.toArray⟩ = ⟨(([] : Str) ++ t).toArray⟩ := ba_append _ _
          have HF : Hid (([] : Str) ++ tb = [] ++ [123] ++ inner os ++ [125]) := by show _ = _; rw [htb, hta, HT.out]; simp
          by_cases hoe : os = []
          · have ho0 : ¬ (0 : Int) < (os.length : Nat) := by rw [hoe]; simp
            have HE : Hid (fPrint l = [] ++ tb) := by show _ = _; rw [HR.out, if_neg (fun h => h.1 rfl), HF.out]
            clear HR HF hta htb HT hoe
            rw [List.nil_append] at HE a3
            generalize os.length = N at *
            go_wp2_with fail
            go_ret
            exact ⟨by rw [HE.out]; rfl, hb⟩
          · have ho0 : (0 : Int) < (os.length : Nat) := by have := List.length_pos_iff.2 hoe; omega
            have HE : Hid (fPrint l = [] ++ tb) := by show _ = _; rw [HR.out, if_neg (fun h => h.1 rfl), HF.out]
            clear HR HF hta htb HT hoe
            rw [List.nil_append] at HE a3
            generalize os.length = N at *
            go_wp2_with fail
            go_ret
            exact ⟨by rw [HE.out]; rfl, hb⟩
end Go.Proofs.YtcbjhfnlhpallaaGreatDoor
