/- Texts that the others lean on. -/
import Derived.Test.YteankdaegdhfiaaGreatDoorKYPd1
namespace Go.Proofs.YteankdaegdhfiaaGreatDoor
open Go.RowKit
set_option maxHeartbeats 2000000 in
theorem rsign_any (R : Rc) {w : World} {i : Nat} {dp fp fy : Int} (s : Str) (h : Pd R w i dp fp fy) : Calls Tryz.prog 110 #[R.ptr, tx s] w fun e w' => e = .returned (.bool (sg (hd R.q (R.T.drop i)) s)) ∧ Below w.heap.size w w' := by
 have ha := fun W (hW : Pd R W i dp fp fy) => peek0_any R hW
 have f0 := fld0 (hd R.q (R.T.drop i))
 have f2 := fld2 (hd R.q (R.T.drop i))
 unfold sg
 generalize hd R.q (R.T.drop i) = x at *
 cases hk : x.k == 5 with
 | false =>
  go_enter Tryz.func110, Tryz.ntmps110
  go_wp2_with fail
  refine (ha _ h).mono ?_
  rintro e w1 ⟨rfl, b1⟩
  go_wp2_with fail
  go_ret
  exact ⟨rfl, b1⟩
 | true =>
  go_enter Tryz.func110, Tryz.ntmps110
  go_wp2_with fail
  refine (ha _ h).mono ?_
  rintro e w1 ⟨rfl, b1⟩
  have h1 := h.later b1
  go_wp2_with fail
  refine (ha _ h1).mono ?_
  rintro e w2 ⟨rfl, b2⟩
  go_wp2_with fail
  go_ret
  exact ⟨by simp, b1.trans (b2.mono b1.size)⟩
set_option maxHeartbeats 2000000 in
theorem fail_new (R : Rc) {w : World} {i : Nat} {dp fp : Int} (why : Int) (h : Pd R w i dp fp 0) : Calls Tryz.prog 44 #[R.ptr, .int .i64 why] w fun e w' => e = .returned (.tuple #[]) ∧ Pd R w' i dp (hd R.q (R.T.drop i)).p why ∧ Off [R.b] w w' := by
 have ha := peek0_any R h
 have f1 := fld1 (hd R.q (R.T.drop i))
 have c3 := h.c3
 generalize hd R.q (R.T.drop i) = x at *
 go_enter Tryz.func44, Tryz.ntmps44
 go_wp2_with fail
 refine ha.mono ?_
 rintro e w1 ⟨rfl, b1⟩
 have h1 := h.later b1
 have d3 := h1.c3
 have d4 := h1.c4
 have e3 := h1.fz 3
 have e4 := h1.fz 4
 have O1 := Off.of b1 [R.b]
 have s1 := set_heap h1.h 3 (.int .i64 why)
 have o1 := set_off w1 R.b 3 (.int .i64 why)
 have s2 := set_heap s1 4 (.int .i64 x.p)
 have o2 := set_off (w1.setCell ⟨R.b, 3, none⟩ (.int .i64 why)) R.b 4 (.int .i64 x.p)
 have o3 := o1.then o2
 have h3 := h1.put (j := i) (dp' := dp) (fp' := x.p) (fy' := why) o3 h1.ib s2
 have O3 := O1.then o3
 clear s1 o1 s2 o2 o3 ha O1
 go_wp2_with fail
 go_end0
 exact ⟨rfl, h3, O3⟩
set_option maxHeartbeats 2000000 in
theorem rtake_old (R : Rc) {w : World} {i : Nat} {dp fp fy : Int} (s : Str) (hy : fy ≠ 0) (h : Pd R w i dp fp fy) (hi : i + 1 ≤ R.n + 100) : Calls Tryz.prog 114 #[R.ptr, tx s] w fun e w' => e = .returned (.tuple #[]) ∧ Pd R w' (i + 1) dp fp fy ∧ Off [R.b] w w' := by
 have c3 := h.c3
 have c1 := h.c1
 have f1 := h.fz 1
 have hnb := h.nb
 have hy' : (fy == 0) = false := by rw [beq_eq_false_iff_ne]; exact hy
 have hle : (i : Int) + 1 ≤ 1000101 := by omega
 have s1 := set_heap h.h 1 (.int .i64 ((i : Int) + 1))
 have o1 := set_off w R.b 1 (.int .i64 ((i : Int) + 1))
 have h1 := h.put (j := i + 1) (dp' := dp) (fp' := fp) (fy' := fy) o1 hi s1
 clear hy s1
 go_enter Tryz.func114, Tryz.ntmps114
 go_wp2_with fail
 go_end0
 exact ⟨rfl, h1, o1⟩
set_option maxHeartbeats 2000000 in
theorem rtake_yes (R : Rc) {w : World} {i : Nat} {dp fp : Int} (s : Str) (hs : sg (hd R.q (R.T.drop i)) s = true) (h : Pd R w i dp fp 0) (hi : i + 1 ≤ R.n + 100) : Calls Tryz.prog 114 #[R.ptr, tx s] w fun e w' => e = .returned (.tuple #[]) ∧ Pd R w' (i + 1) dp fp 0 ∧ Off [R.b] w w' := by
 have ha := rsign_any R s h
 rw [hs] at ha
 have c3 := h.c3
 have hnb := h.nb
 have hle : (i : Int) + 1 ≤ 1000101 := by omega
 clear hs
 go_enter Tryz.func114, Tryz.ntmps114
 go_wp2_with fail
 refine ha.mono ?_
 rintro e w1 ⟨rfl, b1⟩
 have h1 := h.later b1
 have d1 := h1.c1
 have f1 := h1.fz 1
 have s1 := set_heap h1.h 1 (.int .i64 ((i : Int) + 1))
 have o1 := set_off w1 R.b 1 (.int .i64 ((i : Int) + 1))
 have h2 := h1.put (j := i + 1) (dp' := dp) (fp' := fp) (fy' := 0) o1 hi s1
 have O2 := (Off.of b1 [R.b]).then o1
 clear s1 ha o1
 go_wp2_with fail
 go_end0
 exact ⟨rfl, h2, O2⟩
set_option maxHeartbeats 2000000 in
theorem rtake_no (R : Rc) {w : World} {i : Nat} {dp fp : Int} (s : Str) (hs : sg (hd R.q (R.T.drop i)) s = false) (h : Pd R w i dp fp 0) (hi : i + 1 ≤ R.n + 100) : Calls Tryz.prog 114 #[R.ptr, tx s] w fun e w' => e = .returned (.tuple #[]) ∧ Pd R w' (i + 1) dp (hd R.q (R.T.drop i)).p 71 ∧ Off [R.b] w w' := by
 have ha := rsign_any R s h
 rw [hs] at ha
 have hf := fun W (hW : Pd R W i dp fp 0) => fail_new R 71 hW
 have c3 := h.c3
 have hnb := h.nb
 have hle : (i : Int) + 1 ≤ 1000101 := by omega
 clear hs
 generalize (hd R.q (R.T.drop i)).p = xp at *
 go_enter Tryz.func114, Tryz.ntmps114
 go_wp2_with fail
 refine ha.mono ?_
 rintro e w1 ⟨rfl, b1⟩
 have h1 := h.later b1
 go_wp2_with fail
 refine (hf _ h1).mono ?_
 rintro e w2 ⟨rfl, h2, o2⟩
 have d1 := h2.c1
 have f1 := h2.fz 1
 have s1 := set_heap h2.h 1 (.int .i64 ((i : Int) + 1))
 have o1 := set_off w2 R.b 1 (.int .i64 ((i : Int) + 1))
 have h3 := h2.put (j := i + 1) (dp' := dp) (fp' := xp) (fy' := 71) o1 hi s1
 have O2 := ((Off.of b1 [R.b]).then o2).then o1
 clear s1 ha o1 hf
 go_wp2_with fail
 go_end0
 exact ⟨rfl, h3, O2⟩
set_option maxHeartbeats 2000000 in
theorem rdown_yes (R : Rc) {w : World} {i : Nat} {dp fp fy : Int} (hd0 : 0 ≤ dp) (hd1 : dp < 15) (h : Pd R w i dp fp fy) : Calls Tryz.prog 112 #[R.ptr] w fun e w' => e = .returned (.bool true) ∧ Pd R w' i (dp + 1) fp fy ∧ Off [R.b] w w' := by
 have c2 := h.c2
 have f2 := h.fz 2
 have hg : ¬ dp ≥ 15 := by omega
 have s1 := set_heap h.h 2 (.int .i64 (dp + 1))
 have o1 := set_off w R.b 2 (.int .i64 (dp + 1))
 have h1 := h.put (j := i) (dp' := dp + 1) (fp' := fp) (fy' := fy) o1 h.ib s1
 clear s1
 go_enter Tryz.func112, Tryz.ntmps112
 go_wp2_with fail
 go_ret
 exact ⟨rfl, h1, o1⟩
set_option maxHeartbeats 2000000 in
theorem rdown_no (R : Rc) {w : World} {i : Nat} {dp fp : Int} (hd1 : 15 ≤ dp) (h : Pd R w i dp fp 0) : Calls Tryz.prog 112 #[R.ptr] w fun e w' => e = .returned (.bool false) ∧ Pd R w' i dp (hd R.q (R.T.drop i)).p 72 ∧ Off [R.b] w w' := by
 have c2 := h.c2
 have hg : dp ≥ 15 := hd1
 have hf := fail_new R 72 h
 generalize (hd R.q (R.T.drop i)).p = xp at *
 go_enter Tryz.func112, Tryz.ntmps112
 go_wp2_with fail
 refine hf.mono ?_
 rintro e w1 ⟨rfl, h1, o1⟩
 go_wp2_with fail
 go_ret
 exact ⟨rfl, h1, o1⟩
theorem rMod_any (s : Str) (w : World) : Calls Tryz.prog 68 #[tx s] w fun e w' => e = .returned (.bool (isModB s)) ∧ w = w' := by
 unfold isModB wOn wIgn
 cases h1 : s == [111, 110] <;> cases h2 : s == [105, 103, 110, 111, 114, 105, 110, 103] <;> (go_enter Tryz.func68, Tryz.ntmps68; go_wp2_with fail; go_ret; exact ⟨by rfl, rfl⟩)
theorem rAgg_any (s : Str) (w : World) : Calls Tryz.prog 127 #[tx s] w fun e w' => e = .returned (.bool (isAggB s)) ∧ Below w.heap.size w w' := by
 have ha := among_any s aggW rfl w
 rw [agg_w] at ha
 simp only [aggW, List.map_cons, List.map_nil] at ha
 generalize isAggB s = r at *
 go_enter Tryz.func127, Tryz.ntmps127
 go_wp2_with fail
 refine ha.mono ?_
 rintro e w1 ⟨rfl, b1⟩
 go_wp2_with fail
 go_ret
 exact ⟨rfl, b1⟩
end Go.Proofs.YteankdaegdhfiaaGreatDoor
