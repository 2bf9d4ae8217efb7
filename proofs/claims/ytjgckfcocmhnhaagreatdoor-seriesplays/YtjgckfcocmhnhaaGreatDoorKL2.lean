/- Texts that the others lean on. -/
import Derived.Test.YtjgckfcocmhnhaaGreatDoorKL1
namespace Go.Proofs.YtjgckfcocmhnhaaGreatDoor.Lb
open Go.RowKit
/-- May the byte at place k stand in a name? -/
def chAt (c : UInt8) (k : Nat) : Bool := letB c || decide (c.toNat = 95) || (decide (0 < k) && digB c)
theorem chAt_pos {c : UInt8} {k : Nat} (h : 0 < k) : chAt c k = nameCh c := by
 unfold chAt nameCh
 simp [h]
 cases letB c <;> cases digB c <;> simp
theorem chAt_zero (c : UInt8) : chAt c 0 = (nameCh c && !digB c) := by
 unfold chAt nameCh letB digB
 rw [Bool.eq_iff_iff]
 simp
 omega
def refCh (s : Str) : Bool := (List.range s.length).all fun k => chAt (s.getD k 0) k
theorem refName_eq (s : Str) : fName s = (refCh s && decide (1 ≤ s.length) && decide (s.length ≤ 20)) := by
 unfold fName refCh
 cases s with
 | nil => rfl
 | cons c r =>
  have e : ((List.range (c :: r).length).all fun k => chAt ((c :: r).getD k 0) k) = (!digB c && (c :: r).all nameCh) := by
   rw [List.length_cons, List.range_succ_eq_map, List.all_cons, List.all_map]
   have e2 : (List.range r.length).all ((fun k => chAt ((c :: r).getD k 0) k) ∘ Nat.succ) = r.all nameCh := by
    have : (fun k => chAt ((c :: r).getD k 0) k) ∘ Nat.succ = fun k => nameCh (r.getD k 0) := by
     funext k
     show chAt ((c :: r).getD (k + 1) 0) (k + 1) = _
     rw [chAt_pos (Nat.succ_pos _)]
     rfl
    rw [this]
    clear this
    induction r with
    | nil => rfl
    | cons d r ih =>
     rw [List.length_cons, List.range_succ_eq_map, List.all_cons, List.all_map, List.all_cons]
     congr 1
   rw [e2]
   show (chAt c 0 && _) = _
   rw [chAt_zero, List.all_cons]
   cases nameCh c <;> cases digB c <;> simp
  rw [e]
  show (_ && _ && !digB c && _) = _
  cases digB c <;> cases (c :: r).all nameCh <;> simp
theorem refCh_no {s : Str} {k : Nat} (hk : k < s.length) (h : chAt s[k] k = false) : refCh s = false := by
 unfold refCh
 rw [List.all_eq_false]
 exact ⟨k, by simpa using hk, by simp [hk, h]⟩
def refUp (s : Str) (k : Nat) : Prop := ∀ i (h : i < s.length), i < k → chAt s[i] i = true
theorem refUp_all {s : Str} {k : Nat} (hk : s.length ≤ k) (h : refUp s k) : refCh s = true := by
 unfold refCh
 rw [List.all_eq_true]
 intro i hi
 have hi' : i < s.length := by simpa using hi
 have := h i hi' (by omega)
 simpa [hi'] using this
theorem refUp_step {s : Str} {k : Nat} (hk : k < s.length) (h : refUp s k) (hc : chAt s[k] k = true) : refUp s (k + 1) := fun i hi hlt => by
 by_cases e : i = k
 ·
  subst e; exact hc
 ·
  exact h i hi (by omega)
set_option maxRecDepth 100000 in
set_option maxHeartbeats 2000000 in
theorem refName_any (l : Str) (w : World) (hl : l.length ≤ 9223372036854775807) :
  Calls Tryz.prog 73 #[.string ⟨l.toArray⟩] w fun e w' => e = .returned (.bool (fName l)) ∧ w = w' := by
 have HE : Hid _ := refName_eq l
 go_enter Tryz.func73, Tryz.ntmps73
 go_wp2_with fail
 go_loop [3] (fun i => ∃ k : Nat, k ≤ l.length ∧ i = .int .i64 k ∧ Hid (refUp l k)) (fun i => l.length - (intOf i).toNat)
 case atStart => exact ⟨0, by omega, rfl, fun i h h2 => by omega⟩
 case round =>
  obtain ⟨k, hk, rfl, ha⟩ := hrel
  by_cases hlt : k < l.length
  ·
   have hbk := ba_lt hlt
   have HC : Hid (l[k] = (⟨l.toArray⟩ : ByteArray)[k]'hbk) := rfl
   have HN : Hid (chAt l[k] k = false → fName l = false) := fun h => by rw [HE.out, refCh_no hlt h]; rfl
   have HY : Hid (chAt l[k] k = true → refUp l (k + 1)) := fun h => refUp_step hlt ha.out h
   rw [HC.out] at HN HY
   clear HC ha HE
   have hcases : ∀ d : Nat, d ≤ 47 ∨ (48 ≤ d ∧ d ≤ 57) ∨ (58 ≤ d ∧ d ≤ 64) ∨ (65 ≤ d ∧ d ≤ 90) ∨ (91 ≤ d ∧ d ≤ 94) ∨ d = 95 ∨ d = 96 ∨ (97 ≤ d ∧ d ≤ 122) ∨ 123 ≤ d := fun d => by omega
   rcases hcases ((⟨l.toArray⟩ : ByteArray)[k]'hbk).toNat with hd | hd | hd | hd | hd | hd | hd | hd | hd
   ·
    have f1 : ¬ (97 : Int) ≤ (((⟨l.toArray⟩ : ByteArray)[k]'hbk).toNat : Int) := by omega
    have f2 : (((⟨l.toArray⟩ : ByteArray)[k]'hbk).toNat : Int) ≤ 122 := by omega
    have f3 : ¬ (65 : Int) ≤ (((⟨l.toArray⟩ : ByteArray)[k]'hbk).toNat : Int) := by omega
    have f4 : (((⟨l.toArray⟩ : ByteArray)[k]'hbk).toNat : Int) ≤ 90 := by omega
    have f6 : ¬ (48 : Int) ≤ (((⟨l.toArray⟩ : ByteArray)[k]'hbk).toNat : Int) := by omega
    have f7 : (((⟨l.toArray⟩ : ByteArray)[k]'hbk).toNat : Int) ≤ 57 := by omega
    have f5 : ((((⟨l.toArray⟩ : ByteArray)[k]'hbk).toNat : Int) == 95) = false := by rw [beq_eq_false_iff_ne]; omega
    by_cases hk0 : 0 < k
    ·
     have hk1 : (0 : Int) < k := by omega
     have HV : Hid (chAt ((⟨l.toArray⟩ : ByteArray)[k]'hbk) k = false) := by show _ = _; rw [← Bool.not_eq_true]; simp only [chAt, letB, digB, Bool.or_eq_true, Bool.and_eq_true, decide_eq_true_eq]; omega
     have HU : Hid (fName l = false) := HN.out HV.out
     clear HV HN HY hd hcases
     go_wp2
     go_ret
     exact ⟨by rw [HU.out]; rfl, rfl⟩
    ·
     have hk1 : ¬ (0 : Int) < k := by omega
     have HV : Hid (chAt ((⟨l.toArray⟩ : ByteArray)[k]'hbk) k = false) := by show _ = _; rw [← Bool.not_eq_true]; simp only [chAt, letB, digB, Bool.or_eq_true, Bool.and_eq_true, decide_eq_true_eq]; omega
     have HU : Hid (fName l = false) := HN.out HV.out
     clear HV HN HY hd hcases
     go_wp2
     go_ret
     exact ⟨by rw [HU.out]; rfl, rfl⟩
   ·
    have f1 : ¬ (97 : Int) ≤ (((⟨l.toArray⟩ : ByteArray)[k]'hbk).toNat : Int) := by omega
    have f2 : (((⟨l.toArray⟩ : ByteArray)[k]'hbk).toNat : Int) ≤ 122 := by omega
    have f3 : ¬ (65 : Int) ≤ (((⟨l.toArray⟩ : ByteArray)[k]'hbk).toNat : Int) := by omega
    have f4 : (((⟨l.toArray⟩ : ByteArray)[k]'hbk).toNat : Int) ≤ 90 := by omega
    have f6 : (48 : Int) ≤ (((⟨l.toArray⟩ : ByteArray)[k]'hbk).toNat : Int) := by omega
    have f7 : (((⟨l.toArray⟩ : ByteArray)[k]'hbk).toNat : Int) ≤ 57 := by omega
    have f5 : ((((⟨l.toArray⟩ : ByteArray)[k]'hbk).toNat : Int) == 95) = false := by rw [beq_eq_false_iff_ne]; omega
    by_cases hk0 : 0 < k
    ·
     have hk1 : (0 : Int) < k := by omega
     have HV : Hid (chAt ((⟨l.toArray⟩ : ByteArray)[k]'hbk) k = true) := by show _ = _; simp only [chAt, letB, digB, Bool.or_eq_true, Bool.and_eq_true, decide_eq_true_eq]; omega
     have HU : Hid (refUp l (k + 1)) := HY.out HV.out
     clear HV HN HY hd hcases
     go_wp2
     go_round
     case rel => exact ⟨k + 1, by omega, by go_num, HU⟩
     case measure => simp [intOf]; omega
    ·
     have hk1 : ¬ (0 : Int) < k := by omega
     have HV : Hid (chAt ((⟨l.toArray⟩ : ByteArray)[k]'hbk) k = false) := by show _ = _; rw [← Bool.not_eq_true]; simp only [chAt, letB, digB, Bool.or_eq_true, Bool.and_eq_true, decide_eq_true_eq]; omega
     have HU : Hid (fName l = false) := HN.out HV.out
     clear HV HN HY hd hcases
     go_wp2
     go_ret
     exact ⟨by rw [HU.out]; rfl, rfl⟩
   ·
    have f1 : ¬ (97 : Int) ≤ (((⟨l.toArray⟩ : ByteArray)[k]'hbk).toNat : Int) := by omega
    have f2 : (((⟨l.toArray⟩ : ByteArray)[k]'hbk).toNat : Int) ≤ 122 := by omega
    have f3 : ¬ (65 : Int) ≤ (((⟨l.toArray⟩ : ByteArray)[k]'hbk).toNat : Int) := by omega
    have f4 : (((⟨l.toArray⟩ : ByteArray)[k]'hbk).toNat : Int) ≤ 90 := by omega
    have f6 : (48 : Int) ≤ (((⟨l.toArray⟩ : ByteArray)[k]'hbk).toNat : Int) := by omega
    have f7 : ¬ (((⟨l.toArray⟩ : ByteArray)[k]'hbk).toNat : Int) ≤ 57 := by omega
    have f5 : ((((⟨l.toArray⟩ : ByteArray)[k]'hbk).toNat : Int) == 95) = false := by rw [beq_eq_false_iff_ne]; omega
    by_cases hk0 : 0 < k
    ·
     have hk1 : (0 : Int) < k := by omega
     have HV : Hid (chAt ((⟨l.toArray⟩ : ByteArray)[k]'hbk) k = false) := by show _ = _; rw [← Bool.not_eq_true]; simp only [chAt, letB, digB, Bool.or_eq_true, Bool.and_eq_true, decide_eq_true_eq]; omega
     have HU : Hid (fName l = false) := HN.out HV.out
     clear HV HN HY hd hcases
     go_wp2
     go_ret
     exact ⟨by rw [HU.out]; rfl, rfl⟩
    ·
     have hk1 : ¬ (0 : Int) < k := by omega
     have HV : Hid (chAt ((⟨l.toArray⟩ : ByteArray)[k]'hbk) k = false) := by show _ = _; rw [← Bool.not_eq_true]; simp only [chAt, letB, digB, Bool.or_eq_true, Bool.and_eq_true, decide_eq_true_eq]; omega
     have HU : Hid (fName l = false) := HN.out HV.out
     clear HV HN HY hd hcases
     go_wp2
     go_ret
     exact ⟨by rw [HU.out]; rfl, rfl⟩
   ·
    have f1 : ¬ (97 : Int) ≤ (((⟨l.toArray⟩ : ByteArray)[k]'hbk).toNat : Int) := by omega
    have f2 : (((⟨l.toArray⟩ : ByteArray)[k]'hbk).toNat : Int) ≤ 122 := by omega
    have f3 : (65 : Int) ≤ (((⟨l.toArray⟩ : ByteArray)[k]'hbk).toNat : Int) := by omega
    have f4 : (((⟨l.toArray⟩ : ByteArray)[k]'hbk).toNat : Int) ≤ 90 := by omega
    have f6 : (48 : Int) ≤ (((⟨l.toArray⟩ : ByteArray)[k]'hbk).toNat : Int) := by omega
    have f7 : ¬ (((⟨l.toArray⟩ : ByteArray)[k]'hbk).toNat : Int) ≤ 57 := by omega
    have f5 : ((((⟨l.toArray⟩ : ByteArray)[k]'hbk).toNat : Int) == 95) = false := by rw [beq_eq_false_iff_ne]; omega
    have HV : Hid (chAt ((⟨l.toArray⟩ : ByteArray)[k]'hbk) k = true) := by show _ = _; simp only [chAt, letB, digB, Bool.or_eq_true, Bool.and_eq_true, decide_eq_true_eq]; omega
    have HU : Hid (refUp l (k + 1)) := HY.out HV.out
    clear HV HN HY hd hcases
    go_wp2
    go_round
    case rel => exact ⟨k + 1, by omega, by go_num, HU⟩
    case measure => simp [intOf]; omega
   ·
    have f1 : ¬ (97 : Int) ≤ (((⟨l.toArray⟩ : ByteArray)[k]'hbk).toNat : Int) := by omega
    have f2 : (((⟨l.toArray⟩ : ByteArray)[k]'hbk).toNat : Int) ≤ 122 := by omega
    have f3 : (65 : Int) ≤ (((⟨l.toArray⟩ : ByteArray)[k]'hbk).toNat : Int) := by omega
    have f4 : ¬ (((⟨l.toArray⟩ : ByteArray)[k]'hbk).toNat : Int) ≤ 90 := by omega
    have f6 : (48 : Int) ≤ (((⟨l.toArray⟩ : ByteArray)[k]'hbk).toNat : Int) := by omega
    have f7 : ¬ (((⟨l.toArray⟩ : ByteArray)[k]'hbk).toNat : Int) ≤ 57 := by omega
    have f5 : ((((⟨l.toArray⟩ : ByteArray)[k]'hbk).toNat : Int) == 95) = false := by rw [beq_eq_false_iff_ne]; omega
    by_cases hk0 : 0 < k
    ·
     have hk1 : (0 : Int) < k := by omega
     have HV : Hid (chAt ((⟨l.toArray⟩ : ByteArray)[k]'hbk) k = false) := by show _ = _; rw [← Bool.not_eq_true]; simp only [chAt, letB, digB, Bool.or_eq_true, Bool.and_eq_true, decide_eq_true_eq]; omega
     have HU : Hid (fName l = false) := HN.out HV.out
     clear HV HN HY hd hcases
     go_wp2
     go_ret
     exact ⟨by rw [HU.out]; rfl, rfl⟩
    ·
     have hk1 : ¬ (0 : Int) < k := by omega
     have HV : Hid (chAt ((⟨l.toArray⟩ : ByteArray)[k]'hbk) k = false) := by show _ = _; rw [← Bool.not_eq_true]; simp only [chAt, letB, digB, Bool.or_eq_true, Bool.and_eq_true, decide_eq_true_eq]; omega
     have HU : Hid (fName l = false) := HN.out HV.out
     clear HV HN HY hd hcases
     go_wp2
     go_ret
     exact ⟨by rw [HU.out]; rfl, rfl⟩
   ·
    have f1 : ¬ (97 : Int) ≤ (((⟨l.toArray⟩ : ByteArray)[k]'hbk).toNat : Int) := by omega
    have f2 : (((⟨l.toArray⟩ : ByteArray)[k]'hbk).toNat : Int) ≤ 122 := by omega
    have f3 : (65 : Int) ≤ (((⟨l.toArray⟩ : ByteArray)[k]'hbk).toNat : Int) := by omega
    have f4 : ¬ (((⟨l.toArray⟩ : ByteArray)[k]'hbk).toNat : Int) ≤ 90 := by omega
    have f6 : (48 : Int) ≤ (((⟨l.toArray⟩ : ByteArray)[k]'hbk).toNat : Int) := by omega
    have f7 : ¬ (((⟨l.toArray⟩ : ByteArray)[k]'hbk).toNat : Int) ≤ 57 := by omega
    have f5 : ((((⟨l.toArray⟩ : ByteArray)[k]'hbk).toNat : Int) == 95) = true := by rw [beq_iff_eq]; omega
    have HV : Hid (chAt ((⟨l.toArray⟩ : ByteArray)[k]'hbk) k = true) := by show _ = _; simp only [chAt, letB, digB, Bool.or_eq_true, Bool.and_eq_true, decide_eq_true_eq]; omega
    have HU : Hid (refUp l (k + 1)) := HY.out HV.out
    clear HV HN HY hd hcases
    go_wp2
    go_round
    case rel => exact ⟨k + 1, by omega, by go_num, HU⟩
    case measure => simp [intOf]; omega
   ·
    have f1 : ¬ (97 : Int) ≤ (((⟨l.toArray⟩ : ByteArray)[k]'hbk).toNat : Int) := by omega
    have f2 : (((⟨l.toArray⟩ : ByteArray)[k]'hbk).toNat : Int) ≤ 122 := by omega
    have f3 : (65 : Int) ≤ (((⟨l.toArray⟩ : ByteArray)[k]'hbk).toNat : Int) := by omega
    have f4 : ¬ (((⟨l.toArray⟩ : ByteArray)[k]'hbk).toNat : Int) ≤ 90 := by omega
    have f6 : (48 : Int) ≤ (((⟨l.toArray⟩ : ByteArray)[k]'hbk).toNat : Int) := by omega
    have f7 : ¬ (((⟨l.toArray⟩ : ByteArray)[k]'hbk).toNat : Int) ≤ 57 := by omega
    have f5 : ((((⟨l.toArray⟩ : ByteArray)[k]'hbk).toNat : Int) == 95) = false := by rw [beq_eq_false_iff_ne]; omega
    by_cases hk0 : 0 < k
    ·
     have hk1 : (0 : Int) < k := by omega
     have HV : Hid (chAt ((⟨l.toArray⟩ : ByteArray)[k]'hbk) k = false) := by show _ = _; rw [← Bool.not_eq_true]; simp only [chAt, letB, digB, Bool.or_eq_true, Bool.and_eq_true, decide_eq_true_eq]; omega
     have HU : Hid (fName l = false) := HN.out HV.out
     clear HV HN HY hd hcases
     go_wp2
     go_ret
     exact ⟨by rw [HU.out]; rfl, rfl⟩
    ·
     have hk1 : ¬ (0 : Int) < k := by omega
     have HV : Hid (chAt ((⟨l.toArray⟩ : ByteArray)[k]'hbk) k = false) := by show _ = _; rw [← Bool.not_eq_true]; simp only [chAt, letB, digB, Bool.or_eq_true, Bool.and_eq_true, decide_eq_true_eq]; omega
     have HU : Hid (fName l = false) := HN.out HV.out
     clear HV HN HY hd hcases
     go_wp2
     go_ret
     exact ⟨by rw [HU.out]; rfl, rfl⟩
   ·
    have f1 : (97 : Int) ≤ (((⟨l.toArray⟩ : ByteArray)[k]'hbk).toNat : Int) := by omega
    have f2 : (((⟨l.toArray⟩ : ByteArray)[k]'hbk).toNat : Int) ≤ 122 := by omega
    have f3 : (65 : Int) ≤ (((⟨l.toArray⟩ : ByteArray)[k]'hbk).toNat : Int) := by omega
    have f4 : ¬ (((⟨l.toArray⟩ : ByteArray)[k]'hbk).toNat : Int) ≤ 90 := by omega
    have f6 : (48 : Int) ≤ (((⟨l.toArray⟩ : ByteArray)[k]'hbk).toNat : Int) := by omega
    have f7 : ¬ (((⟨l.toArray⟩ : ByteArray)[k]'hbk).toNat : Int) ≤ 57 := by omega
    have f5 : ((((⟨l.toArray⟩ : ByteArray)[k]'hbk).toNat : Int) == 95) = false := by rw [beq_eq_false_iff_ne]; omega
    have HV : Hid (chAt ((⟨l.toArray⟩ : ByteArray)[k]'hbk) k = true) := by show _ = _; simp only [chAt, letB, digB, Bool.or_eq_true, Bool.and_eq_true, decide_eq_true_eq]; omega
    have HU : Hid (refUp l (k + 1)) := HY.out HV.out
    clear HV HN HY hd hcases
    go_wp2
    go_round
    case rel => exact ⟨k + 1, by omega, by go_num, HU⟩
    case measure => simp [intOf]; omega
   ·
    have f1 : (97 : Int) ≤ (((⟨l.toArray⟩ : ByteArray)[k]'hbk).toNat : Int) := by omega
    have f2 : ¬ (((⟨l.toArray⟩ : ByteArray)[k]'hbk).toNat : Int) ≤ 122 := by omega
    have f3 : (65 : Int) ≤ (((⟨l.toArray⟩ : ByteArray)[k]'hbk).toNat : Int) := by omega
    have f4 : ¬ (((⟨l.toArray⟩ : ByteArray)[k]'hbk).toNat : Int) ≤ 90 := by omega
    have f6 : (48 : Int) ≤ (((⟨l.toArray⟩ : ByteArray)[k]'hbk).toNat : Int) := by omega
    have f7 : ¬ (((⟨l.toArray⟩ : ByteArray)[k]'hbk).toNat : Int) ≤ 57 := by omega
    have f5 : ((((⟨l.toArray⟩ : ByteArray)[k]'hbk).toNat : Int) == 95) = false := by rw [beq_eq_false_iff_ne]; omega
    by_cases hk0 : 0 < k
    ·
     have hk1 : (0 : Int) < k := by omega
     have HV : Hid (chAt ((⟨l.toArray⟩ : ByteArray)[k]'hbk) k = false) := by show _ = _; rw [← Bool.not_eq_true]; simp only [chAt, letB, digB, Bool.or_eq_true, Bool.and_eq_true, decide_eq_true_eq]; omega
     have HU : Hid (fName l = false) := HN.out HV.out
     clear HV HN HY hd hcases
     go_wp2
     go_ret
     exact ⟨by rw [HU.out]; rfl, rfl⟩
    ·
     have hk1 : ¬ (0 : Int) < k := by omega
     have HV : Hid (chAt ((⟨l.toArray⟩ : ByteArray)[k]'hbk) k = false) := by show _ = _; rw [← Bool.not_eq_true]; simp only [chAt, letB, digB, Bool.or_eq_true, Bool.and_eq_true, decide_eq_true_eq]; omega
     have HU : Hid (fName l = false) := HN.out HV.out
     clear HV HN HY hd hcases
     go_wp2
     go_ret
     exact ⟨by rw [HU.out]; rfl, rfl⟩
  ·
   have HF : Hid (fName l = (decide (1 ≤ l.length) && decide (l.length ≤ 20))) := by show _ = _; rw [HE.out, refUp_all (by omega) ha.out]; simp
   by_cases g1 : 1 ≤ l.length
   ·
    by_cases g2 : l.length ≤ 20
    ·
     have i1 : (1 : Int) ≤ l.length := by omega
     have i2 : (l.length : Int) ≤ 20 := by omega
     have HG : Hid (fName l = true) := by show _ = _; rw [HF.out]; simp [g1, g2]
     clear HF g1 g2
     go_wp2_with fail
     go_ret
     exact ⟨by rw [HG.out]; rfl, rfl⟩
    ·
     have i1 : (1 : Int) ≤ l.length := by omega
     have i2 : ¬ (l.length : Int) ≤ 20 := by omega
     have HG : Hid (fName l = false) := by show _ = _; rw [HF.out]; simp [g2]
     clear HF g1 g2
     go_wp2_with fail
     go_ret
     exact ⟨by rw [HG.out]; rfl, rfl⟩
   ·
    have i1 : ¬ (1 : Int) ≤ l.length := by omega
    have HG : Hid (fName l = false) := by show _ = _; rw [HF.out]; simp [g1]
    clear HF g1
    go_wp2_with fail
    go_ret
    exact ⟨by rw [HG.out]; rfl, rfl⟩
end Go.Proofs.YtjgckfcocmhnhaaGreatDoor.Lb
namespace Go.Proofs.YtjgckfcocmhnhaaGreatDoor.Lb
open Go.RowKit
def rVal (s : Str) : Bool := !s.contains 10 && decide (s.length ≤ 30)
theorem rVal_hit {s : Str} {k : Nat} (hk : k < s.length) (h : s[k].toNat = 10) : rVal s = false := by
 unfold rVal
 have e : s[k] = 10 := UInt8.toNat_inj.1 h
 have : s.contains 10 = true := by
  rw [List.contains_iff_mem, ← e]
  exact List.getElem_mem hk
 rw [this]
 rfl
theorem rVal_all {s : Str} {k : Nat} (hk : s.length ≤ k) (h : ∀ i (hi : i < s.length), i < k → s[i].toNat ≠ 10) : rVal s = decide (s.length ≤ 30) := by
 unfold rVal
 have : s.contains 10 = false := by
  rw [← Bool.not_eq_true, List.contains_iff_mem]
  intro hm
  obtain ⟨i, hi, e⟩ := List.mem_iff_getElem.1 hm
  exact h i hi (by omega) (by rw [e]; rfl)
 rw [this]
 rfl
set_option maxHeartbeats 1000000 in
theorem refValue_any (l : Str) (w : World) (hl : l.length ≤ 9223372036854775807) :
  Calls Tryz.prog 74 #[.string ⟨l.toArray⟩] w fun e w' => e = .returned (.bool (rVal l)) ∧ w = w' := by
 go_enter Tryz.func74, Tryz.ntmps74
 go_wp2_with fail
 go_loop [3] (fun i => ∃ k : Nat, k ≤ l.length ∧ i = .int .i64 k ∧ Hid (∀ i (hi : i < l.length), i < k → l[i].toNat ≠ 10)) (fun i => l.length - (intOf i).toNat)
 case atStart => exact ⟨0, by omega, rfl, fun i h h2 => by omega⟩
 case round =>
  obtain ⟨k, hk, rfl, ha⟩ := hrel
  by_cases hlt : k < l.length
  ·
   have hbk := ba_lt hlt
   have HC : Hid (l[k] = (⟨l.toArray⟩ : ByteArray)[k]'hbk) := rfl
   by_cases hc : ((⟨l.toArray⟩ : ByteArray)[k]'hbk).toNat = 10
   ·
    have HR : Hid (rVal l = false) := rVal_hit hlt (by rw [HC.out]; exact hc)
    have hc' : ((((⟨l.toArray⟩ : ByteArray)[k]'hbk).toNat : Int) == 10) = true := by rw [beq_iff_eq]; omega
    clear hc ha HC
    go_wp2
    go_ret
    exact ⟨by rw [HR.out]; rfl, rfl⟩
   ·
    have HR : Hid (∀ i (hi : i < l.length), i < k + 1 → l[i].toNat ≠ 10) := fun i hi h => by
     by_cases e : i = k
     ·
      subst e; rw [HC.out]; exact hc
     ·
      exact ha.out i hi (by omega)
    have hc' : ((((⟨l.toArray⟩ : ByteArray)[k]'hbk).toNat : Int) == 10) = false := by rw [beq_eq_false_iff_ne]; omega
    clear hc ha HC
    go_wp2
    go_round
    case rel => exact ⟨k + 1, by omega, by go_num, HR⟩
    case measure => simp [intOf]; omega
  ·
   have HR : Hid (rVal l = decide (l.length ≤ 30)) := rVal_all (by omega) ha.out
   clear ha
   by_cases g : l.length ≤ 30
   ·
    have g' : (l.length : Int) ≤ 30 := by omega
    have HG : Hid (rVal l = true) := by show _ = _; rw [HR.out]; simp [g]
    clear g HR
    go_wp2_with fail
    go_ret
    exact ⟨by rw [HG.out]; rfl, rfl⟩
   ·
    have g' : ¬ (l.length : Int) ≤ 30 := by omega
    have HG : Hid (rVal l = false) := by show _ = _; rw [HR.out]; simp [g]
    clear g HR
    go_wp2_with fail
    go_ret
    exact ⟨by rw [HG.out]; rfl, rfl⟩
theorem getD_drop {l : List Pr} {j : Nat} (h : j < l.length) : l.drop j = l.getD j ([], []) :: l.drop (j + 1) := by
 rw [getD_at h]
 exact List.drop_eq_getElem_cons h
set_option maxHeartbeats 1000000 in
theorem refGet_any (xa : Option Addr) (n c : Nat) (l : List Pr) (s : Str) (w : World) (hn : n ≤ 9223372036854775807) (hx : Ps w xa n l) :
  Calls Tryz.prog 107 #[.slice xa n c, tx s] w fun e w' => e = .returned (tx (fGet l s)) ∧ w = w' := by
 have HL : Hid (l.length = n) := hx.1
 obtain ⟨_, hcell⟩ := hx
 go_enter Tryz.func107, Tryz.ntmps107
 go_wp2_with fail
 go_loop [5] (fun i => ∃ j : Nat, j ≤ n ∧ i = .int .i64 j ∧ Hid (fGet l s = fGet (l.drop j) s)) (fun i => n - (intOf i).toNat)
 case atStart => exact ⟨0, by omega, rfl, rfl⟩
 case round =>
  obtain ⟨j, hj, rfl, HG⟩ := hrel
  by_cases hlt : j < n
  ·
   obtain ⟨b1, o1, rfl, h1⟩ := hcell (by omega)
   obtain ⟨c10, c11⟩ := h1 j hlt
   have HD : Hid (fGet l s = if (l.getD j ([], [])).1 = s then (l.getD j ([], [])).2 else fGet (l.drop (j + 1)) s) := by
    show _ = _
    rw [HG.out, getD_drop (by rw [HL.out]; exact hlt), get_cons]
   clear h1 hcell HG
   generalize l.getD j ([], []) = p at *
   obtain ⟨p1, p2⟩ := p
   dsimp only at *
   by_cases hp : p1 = s
   ·
    have HR : Hid (fGet l s = p2) := by show _ = _; rw [HD.out, if_pos hp]
    have hp' : (p1 == s) = true := by simpa using hp
    clear hp HD
    go_wp2
    go_ret
    exact ⟨by rw [HR.out]; rfl, rfl⟩
   ·
    have HR : Hid (fGet l s = fGet (l.drop (j + 1)) s) := by show _ = _; rw [HD.out, if_neg hp]
    have hp' : (p1 == s) = false := by simpa using hp
    clear hp HD
    go_wp2
    go_round
    case rel => exact ⟨j + 1, by omega, by go_num, HR⟩
    case measure => simp [intOf]; omega
  ·
   have HR : Hid (fGet l s = []) := by show _ = _; rw [HG.out, List.drop_of_length_le (by rw [HL.out]; omega)]; rfl
   clear HG
   go_wp2_with fail
   go_ret
   exact ⟨by rw [HR.out]; rfl, rfl⟩
end Go.Proofs.YtjgckfcocmhnhaaGreatDoor.Lb
namespace Go.Proofs.YtjgckfcocmhnhaaGreatDoor.Lb
open Go.RowKit
theorem fVal_r (s : Str) : fVal s = (!(s == []) && rVal s) := by
 unfold fVal rVal
 cases s with
 | nil => rfl
 | cons c r =>
  have : (((c :: r) == []) : Bool) = false := rfl
  rw [this]
  simp [Bool.and_comm]
set_option maxRecDepth 100000 in
set_option maxHeartbeats 4000000 in
theorem refIs_any (xa : Option Addr) (n c : Nat) (l : List Pr) (w : World) (hn : n ≤ 9223372036854775807) (hf : Fit l) (hx : Ps w xa n l) :
  Calls Tryz.prog 37 #[.slice xa n c] w fun e w' => e = .returned (.bool (fIs l)) ∧ Below w.heap.size w w' := by
 obtain ⟨hla, hca⟩ := hx
 have HA : Hid (l.length = n) := hla
 clear hla
 go_enter Tryz.func37, Tryz.ntmps37
 go_wp2_with fail
 go_loopw [3] (fun i wr => ∃ j : Nat, j ≤ n ∧ i = .int .i64 j ∧ Hid (∀ i, i < j → okAt l i = true) ∧ Below w.heap.size w wr) (fun i _ => n - (intOf i).toNat)
 case atStart => exact ⟨0, by omega, rfl, fun i h => by omega, Below.refl _ _⟩
 case round =>
  obtain ⟨j, hj, rfl, ht, hb⟩ := hrel
  by_cases hlt : j < n
  ·
   obtain ⟨b1, o1, rfl, h1⟩ := hca (by omega)
   obtain ⟨c10, c11⟩ := h1 j hlt
   have k0 := (hb.cell (p := ⟨b1, o1 + j * 2, none⟩) (World.block_lt_of_cell? _ _ c10)).trans c10
   have k1 := (hb.cell (p := ⟨b1, o1 + j * 2 + 1, none⟩) (World.block_lt_of_cell? _ _ c11)).trans c11
   clear c10 c11
   have HN : Hid (okAt l j = true → ∀ i, i < j + 1 → okAt l i = true) := fun h i hi => by
    by_cases e : i = j
    ·
     rw [e]; exact h
    ·
     exact ht.out i (by omega)
   have HF : Hid (okAt l j = false → fIs l = false) := is_not (by rw [HA.out]; exact hlt)
   have hfa := hf.at j
   have hnm := fun w => refName_any (l.getD j ([], [])).1 w hfa.1
   have hvl := fun w => refValue_any (l.getD j ([], [])).2 w hfa.2
   have HO : Hid (okAt l j = (fName (l.getD j ([], [])).1 && fVal (l.getD j ([], [])).2 && (decide (j = 0) || decide ((l.getD (j - 1) ([], [])).1 < (l.getD j ([], [])).1)))) := rfl
   clear hfa
   by_cases h0 : j = 0
   ·
    have h0' : ¬ (0 : Int) < j := by omega
    have h0d : decide (0 < j) = false := decide_eq_false (by omega)
    have HO' : Hid (okAt l j = (fName (l.getD j ([], [])).1 && fVal (l.getD j ([], [])).2)) := by
     show _ = _
     rw [HO.out, h0]; simp
    clear h1 hca HO h0 ht
    generalize okAt l j = ok at *
    generalize l.getD j ([], []) = p at *
    obtain ⟨p1, p2⟩ := p
    dsimp only at *
    cases hN : fName p1 with
    | false =>
     have HR : Hid (fIs l = false) := HF.out (by rw [HO'.out, hN]; rfl)
     rw [hN] at hnm
     clear HO' HF HN hN
     go_wp2
     go_quiet ((first | (go_at_call 73; exact quiet_eq (hnm _)) | (go_at_call 74; exact quiet_eq (hvl _))))
     go_wp2
     go_ret
     exact ⟨by rw [HR.out]; rfl, below_drewN hb _⟩
    | true =>
     rw [hN] at hnm
     by_cases hE : p2 = []
     ·
      have HR : Hid (fIs l = false) := HF.out (by rw [HO'.out, hN, fVal_r, hE]; rfl)
      have hE' : (p2 == []) = true := by simpa using hE
      clear HO' HF HN hN hE
      go_wp2
      go_quiet ((first | (go_at_call 73; exact quiet_eq (hnm _)) | (go_at_call 74; exact quiet_eq (hvl _))))
      go_wp2
      go_ret
      exact ⟨by rw [HR.out]; rfl, below_drewN hb _⟩
     ·
      have hE' : (p2 == []) = false := by simpa using hE
      cases hV : rVal p2 with
      | false =>
       have HR : Hid (fIs l = false) := HF.out (by rw [HO'.out, hN, fVal_r, hV]; simp)
       rw [hV] at hvl
       clear HO' HF HN hN hE hV
       go_wp2
       go_quiet ((first | (go_at_call 73; exact quiet_eq (hnm _)) | (go_at_call 74; exact quiet_eq (hvl _))))
       go_wp2
       go_ret
       exact ⟨by rw [HR.out]; rfl, below_drewN hb _⟩
      | true =>
       have HR : Hid (∀ i, i < j + 1 → okAt l i = true) := HN.out (by rw [HO'.out, hN, fVal_r, hV]; simp [hE])
       rw [hV] at hvl
       clear HO' HF HN hN hE hV
       go_wp2
       go_quiet ((first | (go_at_call 73; exact quiet_eq (hnm _)) | (go_at_call 74; exact quiet_eq (hvl _))))
       go_wp2
       go_roundw
       case rel => exact ⟨j + 1, by omega, by go_num, HR, below_drewN hb _⟩
       case measure => simp [intOf]; omega
   ·
    obtain ⟨k, rfl⟩ : ∃ k, j = k + 1 := ⟨j - 1, by omega⟩
    obtain ⟨c00, _⟩ := h1 k (by omega)
    have kk := (hb.cell (p := ⟨b1, o1 + k * 2, none⟩) (World.block_lt_of_cell? _ _ c00)).trans c00
    clear c00
    have HO' : Hid (okAt l (k + 1) = (fName (l.getD (k + 1) ([], [])).1 && fVal (l.getD (k + 1) ([], [])).2 && decide ((l.getD k ([], [])).1 < (l.getD (k + 1) ([], [])).1))) := by
     show _ = _
     rw [HO.out]; simp
    have h0d : decide ((0 : Int) < ((k + 1 : Nat) : Int)) = true := decide_eq_true (by omega)
    have hlss := less_eq (l.getD k ([], [])).1 (l.getD (k + 1) ([], [])).1
    clear h1 hca HO h0 ht
    generalize okAt l (k + 1) = ok at *
    generalize l.getD (k + 1) ([], []) = p at *
    generalize l.getD k ([], []) = q at *
    obtain ⟨p1, p2⟩ := p
    obtain ⟨q1, q2⟩ := q
    dsimp only at *
    cases hN : fName p1 with
    | false =>
     have HR : Hid (fIs l = false) := HF.out (by rw [HO'.out, hN]; rfl)
     rw [hN] at hnm
     clear HO' HF HN hN hlss
     go_wp2
     go_quiet ((first | (go_at_call 73; exact quiet_eq (hnm _)) | (go_at_call 74; exact quiet_eq (hvl _))))
     go_wp2
     go_ret
     exact ⟨by rw [HR.out]; rfl, below_drewN hb _⟩
    | true =>
     rw [hN] at hnm
     by_cases hE : p2 = []
     ·
      have HR : Hid (fIs l = false) := HF.out (by rw [HO'.out, hN, fVal_r, hE]; rfl)
      have hE' : (p2 == []) = true := by simpa using hE
      clear HO' HF HN hN hE hlss
      go_wp2
      go_quiet ((first | (go_at_call 73; exact quiet_eq (hnm _)) | (go_at_call 74; exact quiet_eq (hvl _))))
      go_wp2
      go_ret
      exact ⟨by rw [HR.out]; rfl, below_drewN hb _⟩
     ·
      have hE' : (p2 == []) = false := by simpa using hE
      cases hV : rVal p2 with
      | false =>
       have HR : Hid (fIs l = false) := HF.out (by rw [HO'.out, hN, fVal_r, hV]; simp)
       rw [hV] at hvl
       clear HO' HF HN hN hE hV hlss
       go_wp2
       go_quiet ((first | (go_at_call 73; exact quiet_eq (hnm _)) | (go_at_call 74; exact quiet_eq (hvl _))))
       go_wp2
       go_ret
       exact ⟨by rw [HR.out]; rfl, below_drewN hb _⟩
      | true =>
       rw [hV] at hvl
       by_cases hq : q1 < p1
       ·
        have HR : Hid (∀ i, i < k + 1 + 1 → okAt l i = true) := HN.out (by rw [HO'.out, hN, fVal_r, hV]; simp [hE, hq])
        rw [decide_eq_true hq] at hlss
        clear HO' HF HN hN hE hV hq
        go_wp2
        go_quiet ((first | (go_at_call 73; exact quiet_eq (hnm _)) | (go_at_call 74; exact quiet_eq (hvl _))))
        go_wp2
        go_roundw
        case rel => exact ⟨k + 1 + 1, by omega, by go_num, HR, below_drewN hb _⟩
        case measure => simp [intOf]; omega
       ·
        have HR : Hid (fIs l = false) := HF.out (by rw [HO'.out, hN, fVal_r, hV]; simp [hq])
        rw [decide_eq_false hq] at hlss
        clear HO' HF HN hN hE hV hq
        go_wp2
        go_quiet ((first | (go_at_call 73; exact quiet_eq (hnm _)) | (go_at_call 74; exact quiet_eq (hvl _))))
        go_wp2
        go_ret
        exact ⟨by rw [HR.out]; rfl, below_drewN hb _⟩
  ·
   have HT' : Hid (decide (n ≤ 8) = fIs l) := by
    show _ = _
    by_cases h8 : n ≤ 8
    ·
     rw [is_all (by rw [HA.out]; omega) (fun i hi => ht.out i (by rw [HA.out] at hi; omega)), decide_eq_true h8]
    ·
     unfold fIs
     rw [decide_eq_false h8, decide_eq_false (by rw [HA.out]; omega)]
     rfl
   by_cases h8 : n ≤ 8
   ·
    have h8' : (n : Int) ≤ 8 := by omega
    have HR : Hid (fIs l = true) := by show _ = _; rw [← HT'.out]; simp [h8]
    clear HT' h8
    go_wp2_with fail
    go_ret
    exact ⟨by rw [HR.out]; rfl, hb⟩
   ·
    have h8' : ¬ (n : Int) ≤ 8 := by omega
    have HR : Hid (fIs l = false) := by show _ = _; rw [← HT'.out]; simp [h8]
    clear HT' h8
    go_wp2_with fail
    go_ret
    exact ⟨by rw [HR.out]; rfl, hb⟩
end Go.Proofs.YtjgckfcocmhnhaaGreatDoor.Lb
