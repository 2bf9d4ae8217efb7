/- Texts that the others lean on. -/
import Derived.Deep.Cut
import Derived.Test.YteankdaegdhfiaaGreatDoorKYPd7
namespace Go.Proofs.YteankdaegdhfiaaGreatDoor
open Go.RowKit
abbrev zT : Array Value := tcs ⟨0, 0, [], false, 0, 0⟩
/-- Two signs ahead, in locals of the call's own. -/
structure Ph (R : Rc) (w : World) (tb : Nat) (W : World) (x y : Tk) (i : Nat) (dp fp fy : Int) : Prop where
 rd : Pd R W i dp fp fy
 res : W.heap[w.heap.size]? = some (.cells zE 29)
 t : W.heap[tb]? = some (.cells (tcs x) 39)
 n : W.heap[tb + 1]? = some (.cells (tcs y) 39)
 off : Off [R.b] w W
 bl : R.b < w.heap.size
 l1 : w.heap.size < tb
theorem Ph.later {R : Rc} {w : World} {tb : Nat} {W W' : World} {x y : Tk} {i : Nat} {dp fp fy : Int} (h : Ph R w tb W x y i dp fp fy) (hb : Below W.heap.size W W') : Ph R w tb W' x y i dp fp fy :=
 ⟨h.rd.later hb, below_heap hb h.res, below_heap hb h.t, below_heap hb h.n, h.off.on hb, h.bl, h.l1⟩
theorem Ph.read {R : Rc} {w : World} {tb : Nat} {W W' : World} {x y : Tk} {i j : Nat} {dp fp fy dp' fp' fy' : Int} (h : Ph R w tb W x y i dp fp fy) (hr : Pd R W' j dp' fp' fy') (ho : Off [R.b] W W') : Ph R w tb W' x y j dp' fp' fy' := by
 have hb := h.bl
 have hl := h.l1
 exact ⟨hr, ho.heap h.res (by simp; omega), ho.heap h.t (by simp; omega), ho.heap h.n (by simp; omega), h.off.then ho, hb, hl⟩
theorem Ph.next {R : Rc} {w : World} {tb : Nat} {W : World} {x y : Tk} {i : Nat} {dp fp fy : Int} (h : Ph R w tb W x y i dp fp fy) (j : Nat) (hj : j ≤ R.n + 100) : Ph R w tb (W.setCell ⟨R.b, 1, none⟩ (.int .i64 (j : Int))) x y j dp fp fy :=
 h.read (h.rd.put (j := j) (dp' := dp) (fp' := fp) (fy' := fy) (set_off W R.b 1 _) hj (set_heap h.rd.h 1 _)) (set_off W R.b 1 _)
theorem Ph.node {R : Rc} {w : World} {tb nb : Nat} {W W' : World} {x y : Tk} {i : Nat} {dp fp fy : Int} (h : Ph R w tb W x y i dp fp fy) (hn : tb + 1 < nb) (ho : Off [nb] W W') : Ph R w tb W' x y i dp fp fy := by
 have hb := h.bl
 have hl := h.l1
 exact ⟨h.rd.off ho (by simp; omega), ho.heap h.res (by simp; omega), ho.heap h.t (by simp; omega), ho.heap h.n (by simp; omega), h.off.trans ho (by simp; omega), hb, hl⟩
theorem pair_bool {a b : Bool} (h : a = b) : Value.bool a = Value.bool b := by rw [h]
set_option maxHeartbeats 16000000 in
set_option maxRecDepth 20000 in
theorem rprim_old (R : Rc) (dp : Int) : OldR R 111 #[R.ptr] dp := by
 intro w i fp fy hy0 hi h
 have hy' : (fy != 0) = true := by rw [bne_iff_ne]; exact hy0
 clear hy0
 have hbl := h.bl
 have hp0 := fun W (hW : Pd R W i dp fp fy) => peek0_any R hW
 have hp1 := fun W (hW : Pd R W i dp fp fy) => peek1_any R hW
 obtain ⟨x, hx⟩ : ∃ x, Hid (hd R.q (R.T.drop i) = x) := ⟨_, rfl⟩
 obtain ⟨y, hy⟩ : ∃ y, Hid (hd R.q (R.T.drop (i + 1)) = y) := ⟨_, rfl⟩
 simp only [hx.out] at hp0
 simp only [hy.out] at hp1
 obtain ⟨o, HO⟩ : ∃ o, Hid (sg y [40] = o) := ⟨_, rfl⟩
 obtain ⟨g, HG⟩ : ∃ g, Hid ((y.k == 1 && isGrpB y.t) = g) := ⟨_, rfl⟩
 have hi' : i ≤ i + 1 := Nat.le_succ i
 go_enter Tryz.func111, Tryz.ntmps111
 have a1 := bal (Below.refl w.heap.size w) (.cells zE 29)
 have zz := size_le w (.cells zE 29)
 have z1 := a1.size
 have rd1 := h.later a1
 have O1 := (Off.refl [R.b] w).on a1
 have res1 := heap_new w (.cells zE 29)
 clear h a1
 go_wp2_with fail
 refine (hp0 _ rd1).mono ?_
 rintro e w1 ⟨rfl, b1⟩
 have z2 := b1.size
 have rd2 := rd1.later b1
 have O2 := O1.on b1
 have res2 := below_heap b1 res1
 clear rd1 O1 res1 hp0
 go_wp2_with fail
 refine (hp1 _ rd2).mono ?_
 rintro e w2 ⟨rfl, b2⟩
 have z3 := b2.size
 have rd3 := rd2.later b2
 have O3 := O2.on b2
 have res3 := below_heap b2 res2
 have q1 := heap_new w2 (.cells zT 39)
 have B1 := bal (Below.refl w2.heap.size w2) (.cells zT 39)
 have s1 := size_le w2 (.cells zT 39)
 have q2 := heap_new (w2.alloc (.cells zT 39)) (.cells zT 39)
 have B2 := bal B1 (.cells zT 39)
 have q1' := below_heap (bal (Below.refl _ (w2.alloc (.cells zT 39))) (.cells zT 39)) q1
 have hsz : (w2.alloc (.cells zT 39)).heap.size = w2.heap.size + 1 := by show (w2.heap.push _).size = _; exact Array.size_push _
 rw [hsz] at q2
 have rd4 := rd3.later B2
 have O4 := O3.on B2
 have res4 := below_heap B2 res3
 clear rd2 O2 res2 hp1 rd3 O3 res3
 go_upto_region 2 with (first | (refine wp_put rfl 39 _ _ rfl w2.heap.size (tcs x) rfl rfl _ 39 q1' 6 inf39 rfl ⟨rfl, rfl⟩ ?_; intro w3 k3 o3 y3) | (refine wp_put rfl 39 _ _ rfl (w2.heap.size + 1) (tcs y) rfl rfl _ 39 (o3.heap q2 (by simp <;> omega)) 6 inf39 rfl ⟨rfl, rfl⟩ ?_; intro w4 k4 o4 y4))
 have Q : Ph R w w2.heap.size w4 x y i dp fp fy := ⟨(rd4.off o3 (by simp <;> omega)).off o4 (by simp <;> omega), o4.heap (o3.heap res4 (by simp <;> omega)) (by simp <;> omega), o4.heap k3 (by simp <;> omega), k4, (O4.trans o3 (by simp <;> omega)).trans o4 (by simp <;> omega), hbl, by omega⟩
 clear rd4 O4 res4 q1 q1' q2 B1 B2 y3 y4 hsz o3 o4 k3 k4 s1 z1 z2 z3 zz b1 b2
 generalize w2.heap.size = tb at *
 have d0 := (cell_at Q.n 0).trans rfl
 have d2 := (cell_at Q.n 2).trans rfl
 dsimp only [Act.put]
 go_cut [5] from 12 (fun s5 W => s5 = .bool o ∧ Ph R w tb W x y i dp fp fy)
 case first =>
  cases k5 : y.k == 5 with
  | false =>
   have e5 : o = false := by rw [← HO.out, sg, k5]; rfl
   go_wp2_with fail
   go_meet
   case rel => exact ⟨pair_bool e5.symm, Q⟩
  | true =>
   cases t1 : y.t == [40] with
   | false =>
    have e5 : o = false := by rw [← HO.out, sg, k5, t1]; rfl
    go_wp2_with fail
    go_meet
    case rel => exact ⟨pair_bool e5.symm, Q⟩
   | true =>
    have e5 : o = true := by rw [← HO.out, sg, k5, t1]; rfl
    go_wp2_with fail
    go_meet
    case rel => exact ⟨pair_bool e5.symm, Q⟩
 clear Q d0 d2
 obtain ⟨rfl, Q⟩ := hcut
 have d0 := (cell_at Q.n 0).trans rfl
 have d2 := (cell_at Q.n 2).trans rfl
 go_upto_region 3 with fail
 go_cut [6] from 12 (fun s6 W => s6 = .bool g ∧ Ph R w tb W x y i dp fp fy)
 case first =>
  cases k1 : y.k == 1 with
  | false =>
   have e5 : g = false := by rw [← HG.out, k1]; rfl
   go_wp2_with fail
   go_meet
   case rel => exact ⟨pair_bool e5.symm, Q⟩
  | true =>
   cases t2 : y.t == [98, 121] with
   | true =>
    have e5 : g = true := by rw [← HG.out, k1, isGrpB, wBy, t2]; rfl
    go_wp2_with fail
    go_meet
    case rel => exact ⟨pair_bool e5.symm, Q⟩
   | false =>
    cases t3 : y.t == [119, 105, 116, 104, 111, 117, 116] with
    | false =>
     have e5 : g = false := by rw [← HG.out, k1, isGrpB, wBy, wWo, t2, t3]; rfl
     go_wp2_with fail
     go_meet
     case rel => exact ⟨pair_bool e5.symm, Q⟩
    | true =>
     have e5 : g = true := by rw [← HG.out, k1, isGrpB, wBy, wWo, t2, t3]; rfl
     go_wp2_with fail
     go_meet
     case rel => exact ⟨pair_bool e5.symm, Q⟩
 clear Q d0 d2
 obtain ⟨rfl, Q⟩ := hcut
 go_upto_region 4 with fail
 have c3 := Q.rd.c3
 have rs := Q.res
 go_wp2_with (refine wp_put rfl 29 _ _ rfl w.heap.size zE rfl rfl _ 29 rs 13 inf29 rfl rowZ ?_; intro we re oe ze)
 have hb := Q.bl
 have hl1 := Q.l1
 exact bodyPost_ret (res_cell Tryz.results111 _ _ w.heap.size 29 zE _ rfl re Tryz.underlying29 rfl 13 inf29 rfl) rfl ⟨zE, i, rfl, rowZ, hi', Q.rd.off oe (by simp; omega), Q.off.trans oe (by simp)⟩
end Go.Proofs.YteankdaegdhfiaaGreatDoor
