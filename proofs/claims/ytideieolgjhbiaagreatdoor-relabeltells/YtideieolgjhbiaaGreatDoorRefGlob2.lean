/- The reference's Glob: a table of what matches so far. -/
import Derived.Test.YtideieolgjhbiaaGreatDoorRuleB
import Derived.Test.YtideieolgjhbiaaGreatDoorGLaws
import Derived.Deep.OwnRows
namespace Go.Proofs.YtideieolgjhbiaaGreatDoor
open Go.RowKit

def gc (P S : Str) (i k : Nat) : Bool := gm (P.take i) (S.take k)
theorem gc_zero {S : Str} (P : Str) {j : Nat} (hj : j < S.length + 1) : gc P S 0 j = decide (j = 0) := by
  unfold gc
  rw [List.take_zero, gm_nil]
  cases j with
  | zero => simp
  | succ j =>
    cases S with
    | nil => simp at hj
    | cons => simp
theorem gc_star0 {P S : Str} {i : Nat} (hi : i < P.length) (hc : P[i] = 42) : gc P S (i + 1) 0 = gc P S i 0 := by
  unfold gc
  rw [take_snocB P i hi, hc, List.take_zero, gm_snoc_star0]
theorem gc_star {P S : Str} {i k : Nat} (hi : i < P.length) (hk : k < S.length) (hc : P[i] = 42) : gc P S (i + 1) (k + 1) = (gc P S i (k + 1) || gc P S (i + 1) k) := by
  unfold gc
  rw [take_snocB P i hi, hc, gm_snoc_star _ _ _ hk]
theorem gc_no0 {P S : Str} {i : Nat} (hi : i < P.length) (hc : P[i] ≠ 42) : gc P S (i + 1) 0 = false := by
  unfold gc
  rw [take_snocB P i hi, List.take_zero, gm_snoc0 hc]
theorem gc_step {P S : Str} {i k : Nat} (hi : i < P.length) (hk : k < S.length) (hc : P[i] ≠ 42) : gc P S (i + 1) (k + 1) = (gc P S i k && (P[i] == 63 || P[i] == S[k])) := by
  unfold gc
  rw [take_snocB P i hi, gm_snoc hc _ _ _ hk]
theorem gc_all (P S : Str) : gc P S P.length S.length = gm P S := by unfold gc; rw [List.take_length, List.take_length]
/-- The row that is being filled. -/
def fill (P S : Str) (i k j : Nat) : Value := .bool (if j < k then gc P S i j else false)
theorem fill_next {P S : Str} {i k j : Nat} {v : Bool} (hv : v = gc P S i k) : (if j = k then Value.bool v else fill P S i k j) = fill P S i (k + 1) j := by
  unfold fill
  by_cases h : j = k
  · subst h
    rw [if_pos rfl, if_pos (by omega), hv]
  · rw [if_neg h]
    by_cases h2 : j < k
    · rw [if_pos h2, if_pos (by omega)]
    · rw [if_neg h2, if_neg (by omega)]
theorem fill_same {P S : Str} {i k j : Nat} (hv : gc P S i k = false) : fill P S i k j = fill P S i (k + 1) j := by
  unfold fill
  by_cases h : j = k
  · subst h
    rw [if_neg (by omega), if_pos (by omega), hv]
  · by_cases h2 : j < k
    · rw [if_pos h2, if_pos (by omega)]
    · rw [if_neg h2, if_neg (by omega)]
theorem fill_full {P S : Str} {i N j : Nat} (hj : j < N) : fill P S i N j = .bool (gc P S i j) := by unfold fill; rw [if_pos hj]
theorem info4 : (Tryz.prog.info? 4).map (fun i => (i.zero, i.size, i.bytes)) = some (some (.bool false), 1, 1) := by kernel_rfl
def canRow (P S : Str) (i : Nat) (k : Nat) : Value := .bool (gc P S i k)

set_option maxRecDepth 200000 in
set_option maxHeartbeats 2000000 in
theorem refGlob_any (P S : Str) (w : World) (hP : Big P) (hS : S.length ≤ 140737488351232) :
    Calls Tryz.prog 27 #[tx P, tx S] w fun e w' => e = .returned (.bool (gm P S)) ∧ Below w.heap.size w w' := by
  unfold Big at hP
  obtain ⟨N, HN⟩ : ∃ N, Hid (N = S.length + 1) := ⟨_, rfl⟩
  have hN1 : S.length < N := by rw [HN.out]; omega
  have hN2 : N ≤ 140737488351233 := by rw [HN.out]; omega
  have hwr : IntKind.i64.wrap ((S.length : Int) + 1) = (N : Int) := by rw [IntKind.wrap_i64, HN.out]; omega
  have hmk : ∀ W, (Instr.makeSlice 68 (.int .i64 (N : Int)) (.int .i64 (N : Int))).run Tryz.prog W = .ok (.slice (some ⟨W.heap.size, 0, none⟩) N N) (W.alloc (.cells (madeCells #[.bool false] N) 4)) :=
    fun W => run_make_row' 68 4 (.bool false) 1 Tryz.underlying68 info4 rfl .i64 .i64 N (by omega) (by omega) W
  have hrow : ∀ W : World, (W.alloc (.cells (madeCells #[.bool false] N) 4)).rowIs W.heap.size 4 N (fun _ => .bool false) := fun W => World.rowIs_made W (.bool false) N 4
  have hz0 := (hrow w).cell (i := 0) (by omega)
  have hz1 := (hrow w).frozen 0
  have HB0 : Below w.heap.size w (w.alloc (.cells (madeCells #[.bool false] N) 4)) := bal (Below.refl _ _) _
  have HR0 : Hid (((w.alloc (.cells (madeCells #[.bool false] N) 4)).setCell ⟨w.heap.size, 0, none⟩ (.bool true)).rowIs w.heap.size 4 N (canRow P S 0)) := by
    refine ((hrow w).set 0 (.bool true)).congr fun j hj => ?_
    unfold canRow
    rw [gc_zero P (by rw [HN.out] at hj; exact hj)]
    by_cases h : j = 0
    · rw [if_pos h, decide_eq_true h]
    · rw [if_neg h, decide_eq_false h]
  go_enter Tryz.func27, Tryz.ntmps27
  go_wp2_with fail
  have HB1 := HB0.setCell (p := ⟨w.heap.size, 0, none⟩) (Nat.le_refl _) (.bool true)
  have HE : (w.alloc (.cells (madeCells #[.bool false] N) 4)).setCell ⟨w.heap.size, 0, none⟩ (.bool true) = w.alloc (.cells ((madeCells #[.bool false] N).setIfInBounds 0 (.bool true)) 4) := by simp [go_sem]
  rw [HE] at HR0 HB1
  clear hz0 hz1 HB0 HE
  generalize w.alloc (.cells ((madeCells #[.bool false] N).setIfInBounds 0 (.bool true)) 4) = w1 at *
  go_loopw [6, 5] (fun x y wr => ∃ i b : Nat, i ≤ P.length ∧ x = .int .i64 i ∧ y = .slice (some ⟨b, 0, none⟩) N N ∧ Hid (wr.rowIs b 4 N (canRow P S i)) ∧ w.heap.size ≤ b ∧ Below w.heap.size w wr) (fun x _ _ => P.length - (intOf x).toNat)
  case atStart => exact ⟨0, w.heap.size, by omega, rfl, rfl, HR0, Nat.le_refl _, HB1⟩
  case round =>
    obtain ⟨i, b, hi, rfl, rfl, HC, hwb, hbr⟩ := hrel
    clear HR0 HB1
    by_cases hlt : i < P.length
    · have hbi := ba_lt hlt
      have HPi : Hid (P[i] = (⟨P.toArray⟩ : ByteArray)[i]'hbi) := rfl
      have HM1 : Hid ((wr.alloc (.cells (madeCells #[.bool false] N) 4)).rowIs wr.heap.size 4 N (fill P S (i + 1) 0)) := by
        refine (hrow wr).congr fun j hj => ?_
        unfold fill; rw [if_neg (by omega)]
      have HM2 : Hid ((wr.alloc (.cells (madeCells #[.bool false] N) 4)).rowIs b 4 N (canRow P S i)) := HC.out.alloc _
      have hne : b < wr.heap.size := HC.out.lt
      have hbn := hbr.size
      have hbm := bal hbr (.cells (madeCells #[.bool false] N) 4)
      clear HC
      go_wp2_with fail
      generalize wr.alloc (.cells (madeCells #[.bool false] N) 4) = w2 at *
      generalize wr.heap.size = d at *
      clear hbr
      go_loopw [8] (fun x wq => ∃ k : Nat, k ≤ N ∧ x = .int .i64 k ∧ Hid (wq.rowIs d 4 N (fill P S (i + 1) k)) ∧ Hid (wq.rowIs b 4 N (canRow P S i)) ∧ Below w.heap.size w wq) (fun x _ => N - (intOf x).toNat)
      case atStart => exact ⟨0, by omega, rfl, HM1, HM2, hbm⟩
      case round =>
        obtain ⟨k, hk, rfl, HF, HC, hbq⟩ := hrel
        clear HM1 HM2 hbm
        by_cases hkl : k < N
        · have hkl' : (k : Int) ≤ S.length := by rw [HN.out] at hkl; omega
          have hdk := HF.out.cell hkl
          have hdf := HF.out.frozen k
          have HSet : ∀ v, Hid ((wr.setCell ⟨d, k, none⟩ v).rowIs b 4 N (canRow P S i)) := fun v => HC.out.setOther (a := ⟨d, k, none⟩) (by show b ≠ d; omega) v
          have HNext : ∀ v : Bool, v = gc P S (i + 1) k → Hid ((wr.setCell ⟨d, k, none⟩ (.bool v)).rowIs d 4 N (fill P S (i + 1) (k + 1))) := fun v hv => (HF.out.set k (.bool v)).congr fun j hj => fill_next hv
          have hB2 : ∀ v, Below w.heap.size w (wr.setCell ⟨d, k, none⟩ v) := fun v => hbq.setCell (p := ⟨d, k, none⟩) (by show _ ≤ d; omega) v
          have hck := HC.out.cell hkl
          unfold fill at hdk
          rw [if_neg (by omega)] at hdk
          unfold canRow at hck
          by_cases hc : P[i] = 42
          · have t1 : ((((⟨P.toArray⟩ : ByteArray)[i]'hbi).toNat : Int) == 42) = true := by rw [← HPi.out, hc]; rfl
            by_cases hk0 : k = 0
            · have HV := gc_star0 (S := S) hlt hc
              subst hk0
              have h0 : ¬ (0 : Int) < (0 : Nat) := by omega
              cases hg : gc P S i 0 with
              | true =>
                rw [hg] at hck HV
                have HR := HNext true HV.symm
                have HR2 := HSet (.bool true)
                have HB := hB2 (.bool true)
                clear HNext HSet hB2 HV HF HC hc HPi hg
                go_wp2_with fail
                go_roundw
                case rel => exact ⟨1, by omega, by go_num, HR, HR2, HB⟩
                case measure => simp [intOf]; omega
              | false =>
                rw [hg] at hck HV
                have HR := HNext false HV.symm
                have HR2 := HSet (.bool false)
                have HB := hB2 (.bool false)
                clear HNext HSet hB2 HV HF HC hc HPi hg
                go_wp2_with fail
                go_roundw
                case rel => exact ⟨1, by omega, by go_num, HR, HR2, HB⟩
                case measure => simp [intOf]; omega
            · obtain ⟨q, hq⟩ : ∃ q, Hid (k = q + 1) := ⟨k - 1, by show _ = _; omega⟩
              have hq1 : q < k := by rw [hq.out]; omega
              have hq2 : q < N := by omega
              have h0 : (0 : Int) < k := by omega
              have hw1 : IntKind.i64.wrap ((k : Int) - 1) = (q : Int) := by rw [IntKind.wrap_i64, hq.out]; omega
              have HV : gc P S (i + 1) k = (gc P S i k || gc P S (i + 1) q) := by
                rw [hq.out]; exact gc_star hlt (by rw [HN.out] at hkl; rw [hq.out] at hkl; omega) hc
              have hdq := HF.out.cell hq2
              unfold fill at hdq
              rw [if_pos hq1] at hdq
              cases hg : gc P S i k with
              | true =>
                rw [hg] at hck HV
                have HR := HNext true HV.symm
                have HR2 := HSet (.bool true)
                have HB := hB2 (.bool true)
                clear HNext HSet hB2 HV HF HC hc HPi hg hq
                go_wp2_with fail
                go_roundw
                case rel => exact ⟨k + 1, by omega, by go_num, HR, HR2, HB⟩
                case measure => simp [intOf]; omega
              | false =>
                rw [hg, Bool.false_or] at HV
                rw [hg] at hck
                generalize gc P S (i + 1) q = v at *
                have HR := HNext v HV.symm
                have HR2 := HSet (.bool v)
                have HB := hB2 (.bool v)
                clear HNext HSet hB2 HV HF HC hc HPi hg hq
                go_wp2_with fail
                go_roundw
                case rel => exact ⟨k + 1, by omega, by go_num, HR, HR2, HB⟩
                case measure => simp [intOf]; omega
          · have t1 : ((((⟨P.toArray⟩ : ByteArray)[i]'hbi).toNat : Int) == 42) = false := by
              rw [← HPi.out]
              have := @byte_eq P[i] 42
              rw [show ((42 : UInt8).toNat : Int) = 42 from rfl] at this
              rw [this]; simpa using hc
            by_cases hk0 : k = 0
            · have HV := gc_no0 (S := S) hlt hc
              subst hk0
              have h0 : ¬ (0 : Int) < (0 : Nat) := by omega
              have HR : Hid (wr.rowIs d 4 N (fill P S (i + 1) 1)) := HF.out.congr fun j hj => fill_same HV
              clear HNext HSet hB2 HV HF hc HPi
              go_wp2_with fail
              go_roundw
              case rel => exact ⟨1, by omega, by go_num, HR, HC, hbq⟩
              case measure => simp [intOf]; omega
            · obtain ⟨q, hq⟩ : ∃ q, Hid (k = q + 1) := ⟨k - 1, by show _ = _; omega⟩
              have hq1 : q < k := by rw [hq.out]; omega
              have hq2 : q < N := by omega
              have h0 : (0 : Int) < k := by omega
              have hw1 : IntKind.i64.wrap ((k : Int) - 1) = (q : Int) := by rw [IntKind.wrap_i64, hq.out]; omega
              have hqs : q < S.length := by rw [HN.out] at hkl; rw [hq.out] at hkl; omega
              have HV : gc P S (i + 1) k = (gc P S i q && (P[i] == 63 || P[i] == S[q])) := by
                rw [hq.out]; exact gc_step hlt hqs hc
              have hcq := HC.out.cell hq2
              unfold canRow at hcq
              cases hg : gc P S i q with
              | false =>
                rw [hg, Bool.false_and] at HV
                rw [hg] at hcq
                have HR : Hid (wr.rowIs d 4 N (fill P S (i + 1) (k + 1))) := HF.out.congr fun j hj => fill_same HV
                clear HNext HSet hB2 HV HF hc HPi hg hq
                go_wp2_with fail
                go_roundw
                case rel => exact ⟨k + 1, by omega, by go_num, HR, HC, hbq⟩
                case measure => simp [intOf]; omega
              | true =>
                rw [hg, Bool.true_and] at HV
                rw [hg] at hcq
                have hbqs := ba_lt hqs
                have HSq : Hid (S[q] = (⟨S.toArray⟩ : ByteArray)[q]'hbqs) := rfl
                have e63 := @byte_eq P[i] 63
                rw [show ((63 : UInt8).toNat : Int) = 63 from rfl, HPi.out] at e63
                have eqq := @byte_eq P[i] S[q]
                rw [HPi.out, HSq.out] at eqq
                rw [HPi.out, HSq.out, ← e63, ← eqq] at HV
                clear e63 eqq HPi HSq hc hg hq
                generalize hx1 : ((((⟨P.toArray⟩ : ByteArray)[i]'hbi).toNat : Int) == 63) = c1 at *
                generalize hx2 : ((((⟨P.toArray⟩ : ByteArray)[i]'hbi).toNat : Int) == (((⟨S.toArray⟩ : ByteArray)[q]'hbqs).toNat : Int)) = c2 at *
                have HR := HNext _ HV.symm
                have HR2 := HSet (.bool (c1 || c2))
                have HB := hB2 (.bool (c1 || c2))
                clear HNext HSet hB2 HV HF HC
                cases c1 with
                | true =>
                  go_wp2_with fail
                  simp only [Bool.true_or] at HR HR2 HB
                  refine wp_region_noPanic ?_
                  refine wp_region_held_drew (S := fun _ => True) (by kernel_rfl) ?_ (fun _ => ?_)
                  · exact trivial
                  refine take_at 0 (some 64) (.slice (some ⟨d, 0, none⟩) N N) rfl rfl (by kernel_rfl) (by kernel_rfl) (by kernel_rfl) (fun _ _ _ h => h) (by rfl) (fun W hSw => by go_simp) trivial ?_
                  simp only [Act.put, List.setIfInBounds_toArray, List.set_cons_zero, List.set_cons_succ]
                  refine take_at 1 (some 65) (.int .i64 k) rfl rfl (by kernel_rfl) (by kernel_rfl) (by kernel_rfl) (fun _ _ _ h => h) (by rfl) (fun W hSw => by go_simp) trivial ?_
                  simp only [Act.put, List.setIfInBounds_toArray, List.set_cons_zero, List.set_cons_succ]
                  refine take_at 2 (some 66) (tx P) rfl rfl (by kernel_rfl) (by kernel_rfl) (by kernel_rfl) (fun _ _ _ h => h) (by rfl) (fun W hSw => by go_simp) trivial ?_
                  simp only [Act.put, List.setIfInBounds_toArray, List.set_cons_zero, List.set_cons_succ]
                  refine take_at 3 (some 67) (.int .i64 i) rfl rfl (by kernel_rfl) (by kernel_rfl) (by kernel_rfl) (fun _ _ _ h => h) (by rfl) (fun W hSw => by go_simp) trivial ?_
                  simp only [Act.put, List.setIfInBounds_toArray, List.set_cons_zero, List.set_cons_succ]
                  refine take_at 4 (some 68) (.int .u8 ((⟨P.toArray⟩ : ByteArray)[i]'hbi).toNat) rfl rfl (by kernel_rfl) (by kernel_rfl) (by kernel_rfl) (fun _ _ _ h => h) (by rfl) (fun W hSw => by go_simp) trivial ?_
                  simp only [Act.put, List.setIfInBounds_toArray, List.set_cons_zero, List.set_cons_succ]
                  refine take_at 5 (some 69) (.bool true) rfl rfl (by kernel_rfl) (by kernel_rfl) (by kernel_rfl) (fun _ _ _ h => h) (by rfl) (fun W hSw => by go_simp) trivial ?_
                  simp only [Act.put, List.setIfInBounds_toArray, List.set_cons_zero, List.set_cons_succ]
                  refine take_at 6 (some 70) (.bool true) rfl rfl (by kernel_rfl) (by kernel_rfl) (by kernel_rfl) (fun _ _ _ h => h) (by rfl) (fun W hSw => by go_simp) trivial ?_
                  simp only [Act.put, List.setIfInBounds_toArray, List.set_cons_zero, List.set_cons_succ]
                  refine skip_at 7 (some 71) rfl rfl (by kernel_rfl) (by kernel_rfl) (by kernel_rfl) (fun _ _ _ h => h) (by rfl) trivial ?_
                  simp only [Act.put, List.setIfInBounds_toArray, List.set_cons_zero, List.set_cons_succ]
                  refine skip_at 8 (some 72) rfl rfl (by kernel_rfl) (by kernel_rfl) (by kernel_rfl) (fun _ _ _ h => h) (by rfl) trivial ?_
                  simp only [Act.put, List.setIfInBounds_toArray, List.set_cons_zero, List.set_cons_succ]
                  refine skip_at 9 (some 73) rfl rfl (by kernel_rfl) (by kernel_rfl) (by kernel_rfl) (fun _ _ _ h => h) (by rfl) trivial ?_
                  simp only [Act.put, List.setIfInBounds_toArray, List.set_cons_zero, List.set_cons_succ]
                  refine skip_at 10 (some 74) rfl rfl (by kernel_rfl) (by kernel_rfl) (by kernel_rfl) (fun _ _ _ h => h) (by rfl) trivial ?_
                  simp only [Act.put, List.setIfInBounds_toArray, List.set_cons_zero, List.set_cons_succ]
                  refine skip_at 11 (some 75) rfl rfl (by kernel_rfl) (by kernel_rfl) (by kernel_rfl) (fun _ _ _ h => h) (by rfl) trivial ?_
                  simp only [Act.put, List.setIfInBounds_toArray, List.set_cons_zero, List.set_cons_succ]
                  refine skip_at 12 (some 76) rfl rfl (by kernel_rfl) (by kernel_rfl) (by kernel_rfl) (fun _ _ _ h => h) (by rfl) trivial ?_
                  simp only [Act.put, List.setIfInBounds_toArray, List.set_cons_zero, List.set_cons_succ]
                  refine skip_at 13 (some 77) rfl rfl (by kernel_rfl) (by kernel_rfl) (by kernel_rfl) (fun _ _ _ h => h) (by rfl) trivial ?_
                  simp only [Act.put, List.setIfInBounds_toArray, List.set_cons_zero, List.set_cons_succ]
                  refine skip_at 14 (some 78) rfl rfl (by kernel_rfl) (by kernel_rfl) (by kernel_rfl) (fun _ _ _ h => h) (by rfl) trivial ?_
                  simp only [Act.put, List.setIfInBounds_toArray, List.set_cons_zero, List.set_cons_succ]
                  refine take_at 15 (some 79) (.bool true) rfl rfl (by kernel_rfl) (by kernel_rfl) (by kernel_rfl) (fun _ _ _ h => h) (by rfl) (fun W hSw => by go_simp) trivial ?_
                  simp only [Act.put, List.setIfInBounds_toArray, List.set_cons_zero, List.set_cons_succ]
                  refine take_at 16 (some 80) (.pointer (some ⟨d, k, none⟩)) rfl rfl (by kernel_rfl) (by kernel_rfl) (by kernel_rfl) (fun _ _ _ h => h) (by rfl) (fun W hSw => by go_simp) trivial ?_
                  simp only [Act.put, List.setIfInBounds_toArray, List.set_cons_zero, List.set_cons_succ]
                  refine wpAnyH_ready (rs := [17]) (by kernel_rfl) (by simp) ?_
                  refine AllReadyH.cons rfl (fun K hK => ?_) AllReadyH.nil
                  go_simp
                  refine hK.out _ _ ?_ (fun _ => ?_)
                  · exact trivial
                  clear hK K
                  refine wpAnyH_done (by kernel_rfl) ?_ _
                  refine NoPanic.normal ?_
                  go_wp2_with fail
                  go_roundw
                  case rel => exact ⟨k + 1, by omega, by go_num, HR.out.drew, HR2.out.drew, HB.drew⟩
                  case measure => simp [intOf]; omega
                | false =>
                  go_wp2_with fail
                  simp only [Bool.false_or] at HR HR2 HB
                  refine wp_region_noPanic ?_
                  refine wp_region_held_drew (S := fun _ => True) (by kernel_rfl) ?_ (fun _ => ?_)
                  · exact trivial
                  refine take_at 0 (some 64) (.slice (some ⟨d, 0, none⟩) N N) rfl rfl (by kernel_rfl) (by kernel_rfl) (by kernel_rfl) (fun _ _ _ h => h) (by rfl) (fun W hSw => by go_simp) trivial ?_
                  simp only [Act.put, List.setIfInBounds_toArray, List.set_cons_zero, List.set_cons_succ]
                  refine take_at 1 (some 65) (.int .i64 k) rfl rfl (by kernel_rfl) (by kernel_rfl) (by kernel_rfl) (fun _ _ _ h => h) (by rfl) (fun W hSw => by go_simp) trivial ?_
                  simp only [Act.put, List.setIfInBounds_toArray, List.set_cons_zero, List.set_cons_succ]
                  refine take_at 2 (some 66) (tx P) rfl rfl (by kernel_rfl) (by kernel_rfl) (by kernel_rfl) (fun _ _ _ h => h) (by rfl) (fun W hSw => by go_simp) trivial ?_
                  simp only [Act.put, List.setIfInBounds_toArray, List.set_cons_zero, List.set_cons_succ]
                  refine take_at 3 (some 67) (.int .i64 i) rfl rfl (by kernel_rfl) (by kernel_rfl) (by kernel_rfl) (fun _ _ _ h => h) (by rfl) (fun W hSw => by go_simp) trivial ?_
                  simp only [Act.put, List.setIfInBounds_toArray, List.set_cons_zero, List.set_cons_succ]
                  refine take_at 4 (some 68) (.int .u8 ((⟨P.toArray⟩ : ByteArray)[i]'hbi).toNat) rfl rfl (by kernel_rfl) (by kernel_rfl) (by kernel_rfl) (fun _ _ _ h => h) (by rfl) (fun W hSw => by go_simp) trivial ?_
                  simp only [Act.put, List.setIfInBounds_toArray, List.set_cons_zero, List.set_cons_succ]
                  refine take_at 5 (some 69) (.bool false) rfl rfl (by kernel_rfl) (by kernel_rfl) (by kernel_rfl) (fun _ _ _ h => h) (by rfl) (fun W hSw => by go_simp) trivial ?_
                  simp only [Act.put, List.setIfInBounds_toArray, List.set_cons_zero, List.set_cons_succ]
                  refine take_at 6 (some 70) (.bool false) rfl rfl (by kernel_rfl) (by kernel_rfl) (by kernel_rfl) (fun _ _ _ h => h) (by rfl) (fun W hSw => by go_simp) trivial ?_
                  simp only [Act.put, List.setIfInBounds_toArray, List.set_cons_zero, List.set_cons_succ]
                  refine take_at 7 (some 71) (tx P) rfl rfl (by kernel_rfl) (by kernel_rfl) (by kernel_rfl) (fun _ _ _ h => h) (by rfl) (fun W hSw => by go_simp) trivial ?_
                  simp only [Act.put, List.setIfInBounds_toArray, List.set_cons_zero, List.set_cons_succ]
                  refine take_at 8 (some 72) (.int .i64 i) rfl rfl (by kernel_rfl) (by kernel_rfl) (by kernel_rfl) (fun _ _ _ h => h) (by rfl) (fun W hSw => by go_simp) trivial ?_
                  simp only [Act.put, List.setIfInBounds_toArray, List.set_cons_zero, List.set_cons_succ]
                  refine take_at 9 (some 73) (.int .u8 ((⟨P.toArray⟩ : ByteArray)[i]'hbi).toNat) rfl rfl (by kernel_rfl) (by kernel_rfl) (by kernel_rfl) (fun _ _ _ h => h) (by rfl) (fun W hSw => by go_simp) trivial ?_
                  simp only [Act.put, List.setIfInBounds_toArray, List.set_cons_zero, List.set_cons_succ]
                  refine take_at 10 (some 74) (tx S) rfl rfl (by kernel_rfl) (by kernel_rfl) (by kernel_rfl) (fun _ _ _ h => h) (by rfl) (fun W hSw => by go_simp) trivial ?_
                  simp only [Act.put, List.setIfInBounds_toArray, List.set_cons_zero, List.set_cons_succ]
                  refine take_at 11 (some 75) (.int .i64 k) rfl rfl (by kernel_rfl) (by kernel_rfl) (by kernel_rfl) (fun _ _ _ h => h) (by rfl) (fun W hSw => by go_simp) trivial ?_
                  simp only [Act.put, List.setIfInBounds_toArray, List.set_cons_zero, List.set_cons_succ]
                  refine take_at 12 (some 76) (.int .i64 q) rfl rfl (by kernel_rfl) (by kernel_rfl) (by kernel_rfl) (fun _ _ _ h => h) (by rfl) (fun W hSw => by go_simp) trivial ?_
                  simp only [Act.put, List.setIfInBounds_toArray, List.set_cons_zero, List.set_cons_succ]
                  refine take_at 13 (some 77) (.int .u8 ((⟨S.toArray⟩ : ByteArray)[q]'hbqs).toNat) rfl rfl (by kernel_rfl) (by kernel_rfl) (by kernel_rfl) (fun _ _ _ h => h) (by rfl) (fun W hSw => by go_simp) trivial ?_
                  simp only [Act.put, List.setIfInBounds_toArray, List.set_cons_zero, List.set_cons_succ]
                  refine take_at 14 (some 78) (.bool c2) rfl rfl (by kernel_rfl) (by kernel_rfl) (by kernel_rfl) (fun _ _ _ h => h) (by rfl) (fun W hSw => by go_simp) trivial ?_
                  simp only [Act.put, List.setIfInBounds_toArray, List.set_cons_zero, List.set_cons_succ]
                  refine take_at 15 (some 79) (.bool c2) rfl rfl (by kernel_rfl) (by kernel_rfl) (by kernel_rfl) (fun _ _ _ h => h) (by rfl) (fun W hSw => by go_simp) trivial ?_
                  simp only [Act.put, List.setIfInBounds_toArray, List.set_cons_zero, List.set_cons_succ]
                  refine take_at 16 (some 80) (.pointer (some ⟨d, k, none⟩)) rfl rfl (by kernel_rfl) (by kernel_rfl) (by kernel_rfl) (fun _ _ _ h => h) (by rfl) (fun W hSw => by go_simp) trivial ?_
                  simp only [Act.put, List.setIfInBounds_toArray, List.set_cons_zero, List.set_cons_succ]
                  refine wpAnyH_ready (rs := [17]) (by kernel_rfl) (by simp) ?_
                  refine AllReadyH.cons rfl (fun K hK => ?_) AllReadyH.nil
                  go_simp
                  refine hK.out _ _ ?_ (fun _ => ?_)
                  · exact trivial
                  clear hK K
                  refine wpAnyH_done (by kernel_rfl) ?_ _
                  refine NoPanic.normal ?_
                  go_wp2_with fail
                  go_roundw
                  case rel => exact ⟨k + 1, by omega, by go_num, HR.out.drew, HR2.out.drew, HB.drew⟩
                  case measure => simp [intOf]; omega
        · have HR : Hid (wr.rowIs d 4 N (canRow P S (i + 1))) := HF.out.congr fun j hj => by
            rw [show k = N from by omega, fill_full hj]; rfl
          have hkl' : ¬ (k : Int) ≤ S.length := by rw [HN.out] at hkl; omega
          clear HF HC
          go_wp2_with fail
          go_roundw
          case rel => exact ⟨i + 1, d, by omega, by go_num, rfl, HR, by omega, hbq⟩
          case measure => simp [intOf]; omega
    · have hce := HC.out.cell hN1
      have HG := gc_all P S
      have HE : Hid (gm P S = gc P S i S.length) := by show _ = _; rw [← HG, show i = P.length from by omega]
      unfold canRow at hce
      clear HC HG
      generalize gc P S i S.length = v at *
      go_wp2_with fail
      go_ret
      exact ⟨by rw [HE.out]; rfl, hbr⟩
end Go.Proofs.YtideieolgjhbiaaGreatDoor
