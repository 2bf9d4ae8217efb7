/- Texts that the others lean on. -/
import Derived.Test.YteankdaegdhfiaaGreatDoorKYPd5
import Derived.Test.YteankdaegdhfiaaGreatDoorKMD
namespace Go.Proofs.YteankdaegdhfiaaGreatDoor
open Go.RowKit
def RnOut (R : Rc) (lo : Nat) (w : World) (dp : Int) (res : Rs Ex) (cs : Array Value) (w' : World) : Prop :=
 match res with
 | .inr x => ∃ (j : Nat) (fp : Int), x.2 = R.T.drop j ∧ j ≤ R.n ∧ Pd R w' j dp fp 0 ∧ Tr lo w' x.1 cs ∧ Off [R.b] w w'
 | .inl er => ∃ j : Nat, Row 13 cs ∧ (j : Int) ≤ R.n + 40 - dp ∧ er.2 ≠ 0 ∧ Pd R w' j dp er.1 er.2 ∧ Off [R.b] w w'
/-- A reading with no failure yet. -/
def RunR (R : Rc) (F : Nat) (ar : Array Value) (dp : Int) (sp : List Tk → Rs Ex) : Prop := ∀ (w : World) (i : Nat) (fp : Int), i ≤ R.n → Pd R w i dp fp 0 → Calls Tryz.prog F ar w fun e w' => ∃ cs, e = .returned (.agg cs) ∧ RnOut R w.heap.size w dp (sp (R.T.drop i)) cs w'
/-- A reading behind a failure: nothing is told anew. -/
def OldR (R : Rc) (F : Nat) (ar : Array Value) (dp : Int) : Prop := ∀ (w : World) (i : Nat) (fp fy : Int), fy ≠ 0 → i + 1 ≤ R.n + 100 → Pd R w i dp fp fy → Calls Tryz.prog F ar w fun e w' => ∃ (cs : Array Value) (j : Nat), e = .returned (.agg cs) ∧ Row 13 cs ∧ j ≤ i + 1 ∧ Pd R w' j dp fp fy ∧ Off [R.b] w w'
set_option maxHeartbeats 4000000 in
/-- Behind a sign that was not there, or a failure of before. -/
theorem rinner_stop (R : Rc) {w : World} {i : Nat} {dp fp fy fp' fy' : Int} (hy : fy' ≠ 0) (hts : ∀ W, Pd R W i dp fp fy → Calls Tryz.prog 114 #[R.ptr, tx [40]] W fun e w' => e = .returned (.tuple #[]) ∧ Pd R w' (i + 1) dp fp' fy' ∧ Off [R.b] W w') (h : Pd R w i dp fp fy) :
  Calls Tryz.prog 173 #[R.ptr] w fun e w' => e = .returned (.agg zE) ∧ Pd R w' (i + 1) dp fp' fy' ∧ Off [R.b] w w' := by
 have hbl := h.bl
 have hy' : (fy' != 0) = true := by rw [bne_iff_ne]; exact hy
 clear hy
 go_enter Tryz.func173, Tryz.ntmps173
 have a1 := bal (Below.refl w.heap.size w) (.cells zE 29)
 have zz := size_le w (.cells zE 29)
 have z1 := a1.size
 have rd1 := h.later a1
 have O1 := (Off.refl [R.b] w).on a1
 have res1 := heap_new w (.cells zE 29)
 clear h a1
 go_wp2_with fail
 refine (hts _ rd1).mono ?_
 rintro e w1 ⟨rfl, P1, o1⟩
 have z2 := o1.size
 have O2 := O1.then o1
 have res2 := o1.heap res1 (by simp <;> omega)
 have c3 := P1.c3
 clear rd1 O1 res1 hts
 go_wp2_with (refine wp_put rfl 29 _ _ rfl w.heap.size zE rfl rfl _ 29 res2 13 inf29 rfl rowZ ?_; intro we re oe ze)
 have P2 := P1.off oe (by simp <;> omega)
 have O3 := O2.trans oe (by simp <;> omega)
 exact bodyPost_ret (res_cell Tryz.results173 _ _ w.heap.size 29 zE _ rfl re Tryz.underlying29 rfl 13 inf29 rfl) rfl ⟨rfl, P2, O3⟩
theorem rinner_old (R : Rc) (dp : Int) : OldR R 173 #[R.ptr] dp := by
 intro w i fp fy hy hi h
 refine (rinner_stop R hy (fun W hW => rtake_old R [40] hy hW hi) h).mono ?_
 rintro e w1 ⟨rfl, P1, o1⟩
 exact ⟨zE, i + 1, rfl, rowZ, Nat.le_refl _, P1, o1⟩
theorem rinner_no (R : Rc) {w : World} {i : Nat} {dp fp : Int} (c : List Tk → Rs Ex) (hd15 : dp ≤ 15) (hin : i ≤ R.n) (hs : sg (hd R.q (R.T.drop i)) [40] = false) (h : Pd R w i dp fp 0) : Calls Tryz.prog 173 #[R.ptr] w fun e w' => ∃ cs, e = .returned (.agg cs) ∧ RnOut R w.heap.size w dp (brkP R.q c (R.T.drop i)) cs w' := by
 have e : brkP R.q c (R.T.drop i) = .inl ((hd R.q (R.T.drop i)).p, 71) := by unfold brkP; rw [if_pos hs]; rfl
 rw [e]
 refine (rinner_stop R (by decide) (fun W hW => rtake_no R [40] hs hW (by omega)) h).mono ?_
 rintro e w1 ⟨rfl, P1, o1⟩
 exact ⟨zE, rfl, i + 1, rowZ, by omega, by show (71 : Int) ≠ 0; decide, P1, o1⟩
set_option maxHeartbeats 4000000 in
theorem rinner_deep (R : Rc) : RunR R 173 #[R.ptr] 15 (brkP R.q (deep R.q)) := by
 intro w i fp hin h
 cases hs : sg (hd R.q (R.T.drop i)) [40] with
 | false => exact rinner_no R _ (by decide) hin hs h
 | true =>
  have e : brkP R.q (deep R.q) (R.T.drop i) = .inl ((hd R.q (R.T.drop (i + 1))).p, 72) := by unfold brkP; rw [if_neg (by rw [hs]; decide), List.tail_drop]; rfl
  rw [e]
  have hl := psg_lt h hs
  have hts := fun W (hW : Pd R W i 15 fp 0) => rtake_yes R [40] hs hW (by omega)
  have hdn := fun W (hW : Pd R W (i + 1) 15 fp 0) => rdown_no R (by decide) hW
  have hbl := h.bl
  clear e hs
  generalize (hd R.q (R.T.drop (i + 1))).p = x at *
  go_enter Tryz.func173, Tryz.ntmps173
  have a1 := bal (Below.refl w.heap.size w) (.cells zE 29)
  have zz := size_le w (.cells zE 29)
  have z1 := a1.size
  have rd1 := h.later a1
  have O1 := (Off.refl [R.b] w).on a1
  have res1 := heap_new w (.cells zE 29)
  clear h a1
  go_wp2_with fail
  refine (hts _ rd1).mono ?_
  rintro e w1 ⟨rfl, P1, o1⟩
  have z2 := o1.size
  have O2 := O1.then o1
  have res2 := o1.heap res1 (by simp <;> omega)
  have c3 := P1.c3
  clear rd1 O1 res1 hts
  go_wp2_with fail
  refine (hdn _ P1).mono ?_
  rintro e w2 ⟨rfl, P2, o2⟩
  have z3 := o2.size
  have O3 := O2.then o2
  have res3 := o2.heap res2 (by simp <;> omega)
  clear P1 O2 res2 hdn c3
  go_wp2_with (refine wp_put rfl 29 _ _ rfl w.heap.size zE rfl rfl _ 29 res3 13 inf29 rfl rowZ ?_; intro we re oe ze)
  have P4 := P2.off oe (by simp <;> omega)
  have O4 := O3.trans oe (by simp <;> omega)
  exact bodyPost_ret (res_cell Tryz.results173 _ _ w.heap.size 29 zE _ rfl re Tryz.underlying29 rfl 13 inf29 rfl) rfl ⟨zE, rfl, i + 1, rowZ, by omega, by show (72 : Int) ≠ 0; decide, P4, O4⟩
theorem RnOut.row {R : Rc} {lo : Nat} {w : World} {dp : Int} {res : Rs Ex} {cs : Array Value} {w' : World} (h : RnOut R lo w dp res cs w') : Row 13 cs := by
 cases res with
 | inr x =>
  obtain ⟨j, fp, _, _, _, t, _⟩ := h
  exact t.row
 | inl er =>
  obtain ⟨j, r, _⟩ := h
  exact r
theorem RnOut.heap {R : Rc} {lo : Nat} {w : World} {dp : Int} {res : Rs Ex} {cs : Array Value} {w' : World} (h : RnOut R lo w dp res cs w') : Off [R.b] w w' := by
 cases res with
 | inr x =>
  obtain ⟨j, fp, _, _, _, _, o⟩ := h
  exact o
 | inl er =>
  obtain ⟨j, _, _, _, _, o⟩ := h
  exact o
/-- A place where the reader stands behind a reading, and what is left to be said of it. -/
structure At (R : Rc) (lo : Nat) (dp : Int) (res : Rs Ex) (cs : Array Value) (w' : World) (j : Nat) (fp fy : Int) : Prop where
 rd : Pd R w' j dp fp fy
 good : ∀ x, res = .inr x → fy = 0 ∧ x.2 = R.T.drop j ∧ j ≤ R.n ∧ Tr lo w' x.1 cs
 bad : ∀ er, res = .inl er → er = (fp, fy) ∧ fy ≠ 0 ∧ (j : Int) ≤ R.n + 40 - dp
theorem RnOut.at {R : Rc} {lo : Nat} {w : World} {dp : Int} {res : Rs Ex} {cs : Array Value} {w' : World} (h : RnOut R lo w dp res cs w') : ∃ j fp fy, At R lo dp res cs w' j fp fy := by
 cases res with
 | inr x =>
  obtain ⟨j, fp, hx, hj, P, t, o⟩ := h
  exact ⟨j, fp, 0, P, (fun y e => by injection e with e; subst e; exact ⟨rfl, hx, hj, t⟩), (fun y e => by cases e)⟩
 | inl er =>
  obtain ⟨j, r, hj, hy, P, o⟩ := h
  exact ⟨j, er.1, er.2, P, (fun y e => by cases e), (fun y e => by injection e with e; subst e; exact ⟨rfl, hy, hj⟩)⟩
/-- The reader alone was written: its depth, its place. -/
theorem At.move {R : Rc} {lo : Nat} {dp : Int} {res : Rs Ex} {cs : Array Value} {w' w'' : World} {j : Nat} {fp fy : Int} (h : At R lo dp res cs w' j fp fy) (hl : R.b < lo) (ho : Off [R.b] w' w'') : ∀ x, res = .inr x → Tr lo w'' x.1 cs := by
 intro x hx
 obtain ⟨_, _, _, t⟩ := h.good x hx
 exact TrP.off ho (by simp; omega) _ t
def InS (R : Rc) (lo : Nat) (dp : Int) (cs : Array Value) (w' : World) (j : Nat) (fp fy : Int) : Rs Ex → Prop
 | .inr x => fy = 0 ∧ x.2 = R.T.drop j ∧ j ≤ R.n ∧ Tr lo w' x.1 cs
 | .inl er => er = (fp, fy) ∧ fy ≠ 0 ∧ (j : Int) ≤ R.n + 40 - dp
set_option maxHeartbeats 16000000 in
set_option maxRecDepth 20000 in
theorem rinner_s (R : Rc) (dp : Int) (c : List Tk → Rs Ex) (h0 : 0 ≤ dp) (h15 : dp < 15) (hB : RunR R 42 #[R.ptr, .int .i64 0] (dp + 1) c) : RunR R 173 #[R.ptr] dp (brkP R.q c) := by
 intro w i fp hin h
 cases hs : sg (hd R.q (R.T.drop i)) [40] with
 | false => exact rinner_no R _ (by omega) hin hs h
 | true =>
  have HB : Hid (brkP R.q c (R.T.drop i) = bnd (c (R.T.drop (i + 1))) fun x => if sg (hd R.q x.2) [41] = true then .inr (x.1, x.2.tail) else .inl (bad R.q x.2 71)) := by
   show _ = _
   unfold brkP
   rw [if_neg (by simp [hs]), List.tail_drop]
  obtain ⟨RES, HE⟩ : ∃ RES, Hid (brkP R.q c (R.T.drop i) = RES) := ⟨_, rfl⟩
  rw [HE.out] at HB ⊢
  have hl := psg_lt h hs
  have hts := fun W (hW : Pd R W i dp fp 0) => rtake_yes R [40] hs hW (by omega)
  have hdn := fun W (hW : Pd R W (i + 1) dp fp 0) => rdown_yes R h0 h15 hW
  have hbl := h.bl
  have h14 : dp ≤ 14 := by omega
  clear hs HE h15
  go_enter Tryz.func173, Tryz.ntmps173
  have a1 := bal (Below.refl w.heap.size w) (.cells zE 29)
  have zz := size_le w (.cells zE 29)
  have z1 := a1.size
  have rd1 := h.later a1
  have O1 := (Off.refl [R.b] w).on a1
  have res1 := heap_new w (.cells zE 29)
  clear h a1
  go_wp2_with fail
  refine (hts _ rd1).mono ?_
  rintro e w1 ⟨rfl, P1, o1⟩
  have z2 := o1.size
  have O2 := O1.then o1
  have res2 := o1.heap res1 (by simp <;> omega)
  have c3 := P1.c3
  clear rd1 O1 res1 hts
  go_wp2_with fail
  refine (hdn _ P1).mono ?_
  rintro e w2 ⟨rfl, P2, o2⟩
  have z3 := o2.size
  have O3 := O2.then o2
  have res3 := o2.heap res2 (by simp <;> omega)
  clear P1 O2 res2 hdn c3
  have hc := hB w2 (i + 1) fp (by omega) P2
  clear hB
  go_wp2_with fail
  refine hc.mono ?_
  rintro e w3 ⟨cs, rfl, V⟩
  have row := V.row
  have oV := V.heap
  have z4 := oV.size
  have O4 := O3.then oV
  have res4 := oV.heap res3 (by simp <;> omega)
  obtain ⟨j, fq, fy, A⟩ := V.at
  have HA : Hid _ := A
  clear hc V O3 res3 P2 oV
  have R3 := A.rd
  clear A
  go_upto_region 5 with (refine wp_new (w := w3) rfl 29 _ _ rfl zE cs rfl rfl 13 inf29 rfl row ?_; intro w4 l4 b4 s4)
  have z5 := b4.size
  have O5 := O4.on b4
  have res5 := below_heap b4 res4
  have rd5 := R3.later b4
  have c2 := rd5.c2
  have f2 := rd5.fz 2
  have e1 : dp + 1 - 1 = dp := by omega
  clear O4 res4 R3
  go_upto_region 6 with fail
  have s6 := set_heap rd5.h 2 (.int .i64 dp)
  have o6 := set_off w4 R.b 2 (.int .i64 dp)
  generalize w4.setCell ⟨R.b, 2, none⟩ (.int .i64 dp) = w6 at *
  have P6 := rd5.put (j := j) (dp' := dp) (fp' := fq) (fy' := fy) o6 rd5.ib s6
  clear c2 f2 e1 s6
  have z6 := o6.size
  have O6 := O5.then o6
  have res6 := o6.heap res5 (by simp <;> omega)
  have lc6 := o6.heap l4 (by simp <;> omega)
  have U6 := (Off.of b4 [R.b]).then o6
  clear rd5 O5 res5 l4 o6
  have hlast : Calls Tryz.prog 114 #[R.ptr, tx [41]] w6 fun e w' => e = .returned (.tuple #[]) ∧ ∃ fp' fy', Pd R w' (j + 1) dp fp' fy' ∧ Off [R.b] w6 w' ∧ Hid (InS R w2.heap.size dp cs w' (j + 1) fp' fy' RES) := by
   cases hr : c (R.T.drop (i + 1)) with
   | inr x =>
    have g := HA.out.good x hr
    have t6 := HA.out.move (by omega) U6 x hr
    rw [hr] at HB
    obtain ⟨rfl, gx, gj, _⟩ := g
    cases hc : sg (hd R.q (R.T.drop j)) [41] with
    | true =>
     have hlj := psg_lt P6 hc
     have E : RES = .inr (x.1, R.T.drop (j + 1)) := by rw [HB.out]; show (if sg (hd R.q x.2) [41] = true then _ else _) = _; rw [gx, if_pos hc, List.tail_drop]
     rw [E]
     refine (rtake_yes R [41] hc P6 (by omega)).mono ?_
     rintro e w7 ⟨rfl, P7, o7⟩
     exact ⟨rfl, fq, 0, P7, o7, rfl, rfl, by omega, TrP.off o7 (by simp; omega) _ t6⟩
    | false =>
     have E : RES = .inl (bad R.q (R.T.drop j) 71) := by rw [HB.out]; show (if sg (hd R.q x.2) [41] = true then _ else _) = _; rw [gx, if_neg (by rw [hc]; decide)]
     rw [E]
     refine (rtake_no R [41] hc P6 (by omega)).mono ?_
     rintro e w7 ⟨rfl, P7, o7⟩
     exact ⟨rfl, _, 71, P7, o7, rfl, by decide, by omega⟩
   | inl er =>
    obtain ⟨g1, g2, g3⟩ := HA.out.bad er hr
    rw [hr] at HB
    have E : RES = .inl er := by rw [HB.out]; rfl
    rw [E]
    refine (rtake_old R [41] g2 P6 (by omega)).mono ?_
    rintro e w7 ⟨rfl, P7, o7⟩
    exact ⟨rfl, fq, fy, P7, o7, g1, g2, by omega⟩
  clear HA HB P6
  go_wp2_with fail
  refine hlast.mono ?_
  rintro e w7 ⟨rfl, fp7, fy7, P7, o7, S7⟩
  have z7 := o7.size
  have O7 := O6.then o7
  have res7 := o7.heap res6 (by simp <;> omega)
  have lc7 := o7.heap lc6 (by simp <;> omega)
  clear O6 res6 lc6 hlast o7
  go_wp2_with (first | (refine wp_get rfl 29 _ rfl w3.heap.size cs 29 rfl lc7 _ Tryz.underlying29 rfl 13 inf29 row.1 ?_) | (refine wp_put rfl 29 _ _ rfl w.heap.size cs rfl rfl _ 29 res7 13 inf29 rfl row ?_; intro we re oe ze))
  have P8 := P7.off oe (by simp <;> omega)
  have O8 := O7.trans oe (by simp <;> omega)
  refine bodyPost_ret (res_cell Tryz.results173 _ _ w.heap.size 29 cs _ rfl re Tryz.underlying29 rfl 13 inf29 row.1) rfl ⟨cs, rfl, ?_⟩
  have S := S7.out
  cases RES with
  | inr x =>
   obtain ⟨rfl, s2, s3, s4⟩ := S
   exact ⟨j + 1, fp7, s2, s3, P8, TrP.mono (fun b hb => by show _ ≤ _; have : w2.heap.size ≤ b := hb; omega) _ (TrP.off oe (by simp; omega) _ s4), O8⟩
  | inl er =>
   obtain ⟨rfl, s2, s3⟩ := S
   exact ⟨j + 1, row, s3, s2, P8, O8⟩
end Go.Proofs.YteankdaegdhfiaaGreatDoor
