/- Texts that the others lean on. -/
import Derived.Test.YteankdaegdhfiaaGreatDoorKYPd7
namespace Go.Proofs.YteankdaegdhfiaaGreatDoor
open Go.RowKit
theorem OwnM.sl {w : World} {base : Nat} {v : Value} {l : List Mt} (h : OwnM w base v l) : ∃ an cn, v = .slice an l.length cn := by
 rcases h.2 with ⟨e, h0⟩ | ⟨g, cap, cur, e, _⟩
 ·
  exact ⟨none, 0, by rw [e, h0]⟩
 ·
  exact ⟨_, _, e⟩
/-- A selector half read: v lies in the node, u is the row that was made last. -/
structure Sq (R : Rc) (w : World) (nb : Nat) (p : Int) (W : World) (v u : Value) (r : Int) (acc : List Mt) (i : Nat) (dp fp fy : Int) : Prop where
 rd : Pd R W i dp fp fy
 res : W.heap[w.heap.size]? = some (.cells zE 29)
 nd : W.heap[nb]? = some (.cells (exA 2 p false 0 [] v r false false false false nl nl) 29)
 own : OwnM W (nb + 1) u acc
 off : Off [R.b] w W
 bl : R.b < w.heap.size
 l1 : w.heap.size < nb
theorem Sq.later {R : Rc} {w : World} {nb : Nat} {p : Int} {W W' : World} {v u : Value} {r : Int} {acc : List Mt} {i : Nat} {dp fp fy : Int} (h : Sq R w nb p W v u r acc i dp fp fy) (hb : Below W.heap.size W W') : Sq R w nb p W' v u r acc i dp fp fy :=
 ⟨h.rd.later hb, below_heap hb h.res, below_heap hb h.nd, h.own.later hb, h.off.on hb, h.bl, h.l1⟩
theorem Sq.read {R : Rc} {w : World} {nb : Nat} {p : Int} {W W' : World} {v u : Value} {r : Int} {acc : List Mt} {i j : Nat} {dp fp fy dp' fp' fy' : Int} (h : Sq R w nb p W v u r acc i dp fp fy) (hr : Pd R W' j dp' fp' fy') (ho : Off [R.b] W W') : Sq R w nb p W' v u r acc j dp' fp' fy' := by
 have hb := h.bl
 have hl := h.l1
 exact ⟨hr, ho.heap h.res (by simp; omega), ho.heap h.nd (by simp; omega), h.own.kept ho (by simp; omega), h.off.then ho, hb, hl⟩
theorem Sq.grown {R : Rc} {w : World} {nb : Nat} {p : Int} {W W' : World} {v u u' : Value} {r : Int} {acc acc' : List Mt} {i : Nat} {dp fp fy : Int} (h : Sq R w nb p W v u r acc i dp fp fy) (ho : OwnM W' (nb + 1) u' acc') (hg : W.grownBy W' u.ownBlock) : Sq R w nb p W' v u' r acc' i dp fp fy := by
 have hr : ∀ g, u.ownBlock = some g → nb + 1 ≤ g := fun g e => (World.ownsRow.lt h.own g e).1
 have hb := h.bl
 have hl := h.l1
 refine ⟨h.rd.off (grown_off hg) (fun x hx => ?_), grown_heap hg h.res (fun e => ?_), grown_heap hg h.nd (fun e => ?_), ho, h.off.trans (grown_off hg) (fun y hy => Or.inr ?_), hb, hl⟩
 ·
  have := hr x (by simpa using hx); omega
 ·
  have := hr _ e.symm; omega
 ·
  have := hr _ e.symm; omega
 ·
  have := hr y (by simpa using hy); omega
theorem Sq.set5 {R : Rc} {w : World} {nb : Nat} {p : Int} {W : World} {v u : Value} {r : Int} {acc : List Mt} {i : Nat} {dp fp fy : Int} (h : Sq R w nb p W v u r acc i dp fp fy) : Sq R w nb p (W.setCell ⟨nb, 5, none⟩ u) u u r acc i dp fp fy := by
 have hb := h.bl
 have hl := h.l1
 exact ⟨h.rd.off (set_off W nb 5 u) (by simp; omega), (set_off W nb 5 u).heap h.res (by simp; omega), set_heap h.nd 5 u, h.own.kept (set_off W nb 5 u) (by simp), h.off.trans (set_off W nb 5 u) (by simp; omega), hb, hl⟩
theorem Sq.set6 {R : Rc} {w : World} {nb : Nat} {p : Int} {W : World} {v u : Value} {r : Int} {acc : List Mt} {i : Nat} {dp fp fy : Int} (h : Sq R w nb p W v u r acc i dp fp fy) (r' : Int) : Sq R w nb p (W.setCell ⟨nb, 6, none⟩ (.int .i64 r')) v u r' acc i dp fp fy := by
 have hb := h.bl
 have hl := h.l1
 exact ⟨h.rd.off (set_off W nb 6 _) (by simp; omega), (set_off W nb 6 _).heap h.res (by simp; omega), set_heap h.nd 6 _, h.own.kept (set_off W nb 6 _) (by simp), h.off.trans (set_off W nb 6 _) (by simp; omega), hb, hl⟩
theorem Sq.next {R : Rc} {w : World} {nb : Nat} {p : Int} {W : World} {v u : Value} {r : Int} {acc : List Mt} {i : Nat} {dp fp fy : Int} (h : Sq R w nb p W v u r acc i dp fp fy) (j : Nat) (hj : j ≤ R.n + 100) : Sq R w nb p (W.setCell ⟨R.b, 1, none⟩ (.int .i64 (j : Int))) v u r acc j dp fp fy :=
 h.read (h.rd.put (j := j) (dp' := dp) (fp' := fp) (fy' := fy) (set_off W R.b 1 _) hj (set_heap h.rd.h 1 _)) (set_off W R.b 1 _)
/-- What a matcher's reading leaves. -/
def mtR (R : Rc) (i : Nat) (fp fy : Int) (y : Mt) (fp' fy' : Int) : Prop :=
 (fy ≠ 0 ∧ fp' = fp ∧ fy' = fy) ∨ (fy = 0 ∧ ((∃ x, mtI R.q (R.T.drop i) = .inr x ∧ x.1 = y ∧ x.2 = R.T.drop (i + 3) ∧ fp' = fp ∧ fy' = 0 ∧ i + 3 ≤ R.n) ∨ (∃ er, mtI R.q (R.T.drop i) = .inl er ∧ fp' = er.1 ∧ fy' = er.2 ∧ er.2 ≠ 0)))
theorem rmatcher_any (R : Rc) {w : World} {i : Nat} {dp fp fy : Int} (hb : i + 3 ≤ R.n + 100) (h : Pd R w i dp fp fy) :
  Calls Tryz.prog 219 #[R.ptr] w fun e w' => ∃ y fp' fy', e = .returned (.agg (mA y)) ∧ Pd R w' (i + 3) dp fp' fy' ∧ Off [R.b] w w' ∧ Hid (mtR R i fp fy y fp' fy') := by
 by_cases hy : fy = 0
 ·
  subst hy
  have t1 : (R.T.drop i).tail = R.T.drop (i + 1) := List.tail_drop
  have t2 : (R.T.drop (i + 1)).tail = R.T.drop (i + 2) := List.tail_drop
  have t3 : (R.T.drop (i + 2)).tail = R.T.drop (i + 3) := List.tail_drop
  by_cases h1 : (hd R.q (R.T.drop i)).k = 1
  ·
   by_cases h2 : (hd R.q (R.T.drop (i + 1))).k = 5
   ·
    by_cases h3 : mkd (hd R.q (R.T.drop (i + 1))).t = 0
    ·
     refine (rmatcher_f2b R (i := i) (i1 := i + 1) (i2 := i + 2) (i3 := i + 3) (by omega) (by omega) (by omega) hb h1 h2 h3 h).mono ?_
     rintro e w1 ⟨rfl, P1, o1⟩
     refine ⟨_, _, _, rfl, P1, o1, Or.inr ⟨rfl, Or.inr ⟨((hd R.q (R.T.drop (i + 1))).p, 71), ?_, rfl, rfl, by show (71 : Int) ≠ 0; decide⟩⟩⟩
     unfold mtI
     rw [t1, if_neg (by simp [h1]), if_pos (Or.inr h3)]
     rfl
    ·
     by_cases h4 : (hd R.q (R.T.drop (i + 2))).k = 4
     ·
      refine (rmatcher_ok R (i := i) (i1 := i + 1) (i2 := i + 2) (i3 := i + 3) (by omega) (by omega) (by omega) hb h1 h2 h3 h4 h).mono ?_
      rintro e w1 ⟨rfl, P1, o1⟩
      have hT := h.ts.1
      have hlt : i + 2 < R.n := by
       by_cases hl : i + 2 < R.n
       ·
        exact hl
       ·
        rw [hd_end (by omega)] at h4
        exact absurd h4 (by show ¬ (0 : Int) = 4; decide)
      refine ⟨_, _, _, rfl, P1, o1, Or.inr ⟨rfl, Or.inl ⟨(⟨(hd R.q (R.T.drop i)).t, mkd (hd R.q (R.T.drop (i + 1))).t, (hd R.q (R.T.drop (i + 2))).t⟩, R.T.drop (i + 3)), ?_, rfl, rfl, rfl, rfl, by omega⟩⟩⟩
      unfold mtI
      rw [t1, t2, t3, if_neg (by simp [h1]), if_neg (by simp [h2, h3]), if_neg (by simp [h4])]
     ·
      refine (rmatcher_f3 R (i := i) (i1 := i + 1) (i2 := i + 2) (i3 := i + 3) (by omega) (by omega) (by omega) hb h1 h2 h3 h4 h).mono ?_
      rintro e w1 ⟨rfl, P1, o1⟩
      refine ⟨_, _, _, rfl, P1, o1, Or.inr ⟨rfl, Or.inr ⟨((hd R.q (R.T.drop (i + 2))).p, 71), ?_, rfl, rfl, by show (71 : Int) ≠ 0; decide⟩⟩⟩
      unfold mtI
      rw [t1, t2, if_neg (by simp [h1]), if_neg (by simp [h2, h3]), if_pos h4]
      rfl
   ·
    refine (rmatcher_f2a R (i := i) (i1 := i + 1) (i2 := i + 2) (i3 := i + 3) (by omega) (by omega) (by omega) hb h1 h2 h).mono ?_
    rintro e w1 ⟨rfl, P1, o1⟩
    refine ⟨_, _, _, rfl, P1, o1, Or.inr ⟨rfl, Or.inr ⟨((hd R.q (R.T.drop (i + 1))).p, 71), ?_, rfl, rfl, by show (71 : Int) ≠ 0; decide⟩⟩⟩
    unfold mtI
    rw [t1, if_neg (by simp [h1]), if_pos (Or.inl h2)]
    rfl
  ·
   refine (rmatcher_f1 R (i := i) (i1 := i + 1) (i2 := i + 2) (i3 := i + 3) (by omega) (by omega) (by omega) hb h1 h).mono ?_
   rintro e w1 ⟨rfl, P1, o1⟩
   refine ⟨_, _, _, rfl, P1, o1, Or.inr ⟨rfl, Or.inr ⟨((hd R.q (R.T.drop i)).p, 71), ?_, rfl, rfl, by show (71 : Int) ≠ 0; decide⟩⟩⟩
   unfold mtI
   rw [if_pos h1]
   rfl
 ·
  refine (rmatcher_old R (i := i) (i1 := i + 1) (i2 := i + 2) (i3 := i + 3) (by omega) (by omega) (by omega) hb hy h).mono ?_
  rintro e w1 ⟨rfl, P1, o1⟩
  exact ⟨_, _, _, rfl, P1, o1, Or.inl ⟨hy, rfl, rfl⟩⟩
/-- A sign that is asked for, whatever came before. -/
theorem rtake_any (R : Rc) {w : World} {i : Nat} {dp fp fy : Int} (s : Str) (h : Pd R w i dp fp fy) (hi : i + 1 ≤ R.n + 100) : Calls Tryz.prog 114 #[R.ptr, tx s] w fun e w' => e = .returned (.tuple #[]) ∧ ∃ fp' fy', Pd R w' (i + 1) dp fp' fy' ∧ Off [R.b] w w' ∧ Hid ((fy ≠ 0 ∧ fp' = fp ∧ fy' = fy) ∨ (fy = 0 ∧ (sg (hd R.q (R.T.drop i)) s = true ∧ fp' = fp ∧ fy' = 0 ∨ sg (hd R.q (R.T.drop i)) s = false ∧ fp' = (hd R.q (R.T.drop i)).p ∧ fy' = 71))) := by
 by_cases hy : fy = 0
 ·
  subst hy
  cases hs : sg (hd R.q (R.T.drop i)) s with
  | true =>
   refine (rtake_yes R s hs h hi).mono ?_
   rintro e w1 ⟨rfl, P1, o1⟩
   exact ⟨rfl, _, _, P1, o1, Or.inr ⟨rfl, Or.inl ⟨rfl, rfl, rfl⟩⟩⟩
  | false =>
   refine (rtake_no R s hs h hi).mono ?_
   rintro e w1 ⟨rfl, P1, o1⟩
   exact ⟨rfl, _, _, P1, o1, Or.inr ⟨rfl, Or.inr ⟨rfl, rfl, rfl⟩⟩⟩
 ·
  refine (rtake_old R s hy h hi).mono ?_
  rintro e w1 ⟨rfl, P1, o1⟩
  exact ⟨rfl, _, _, P1, o1, Or.inl ⟨hy, rfl, rfl⟩⟩
/-- The loop over matchers: what a round knows. -/
def MtSt (R : Rc) (RES : Rs (List Mt)) (first : Bool) (acc : List Mt) (i : Nat) (fp fy : Int) : Prop :=
 (fy = 0 ∧ i ≤ R.n ∧ ∃ kf, R.n - i < kf ∧ RES = lsF R.q [125] (mtI R.q) fewM kf first acc (R.T.drop i)) ∨ (fy ≠ 0 ∧ i ≤ R.n + 4 ∧ RES = .inl (fp, fy))
theorem mt_step (R : Rc) {RES : Rs (List Mt)} {first : Bool} {acc : List Mt} {i i1 kf : Nat} {y : Mt} {fp fp1 fy1 fp2 fy2 : Int} (hin : i ≤ R.n) (hkf : R.n - i < kf + 1) (hR : RES = lsF R.q [125] (mtI R.q) fewM (kf + 1) first acc (R.T.drop i)) (hc : sg (hd R.q (R.T.drop i)) [125] = false)
  (hT : (first = true ∧ i1 = i ∧ fp1 = fp ∧ fy1 = 0) ∨ (first = false ∧ i1 = i + 1 ∧ (sg (hd R.q (R.T.drop i)) [44] = true ∧ fp1 = fp ∧ fy1 = 0 ∨ sg (hd R.q (R.T.drop i)) [44] = false ∧ fp1 = (hd R.q (R.T.drop i)).p ∧ fy1 = 71))) (hM : mtR R i1 fp1 fy1 y fp2 fy2) : MtSt R RES false (acc ++ [y]) (i1 + 3) fp2 fy2 := by
 rw [lsF, if_neg (by rw [hc]; decide)] at hR
 have hi1 : i ≤ i1 ∧ i1 ≤ i + 1 := by rcases hT with ⟨_, h, _⟩ | ⟨_, h, _⟩ <;> omega
 have go : fy1 = 0 → RES = bnd (mtI R.q (R.T.drop i1)) fun x => lsF R.q [125] (mtI R.q) fewM kf false (acc ++ [x.1]) x.2 := by
  intro h0
  rcases hT with ⟨rfl, rfl, _⟩ | ⟨rfl, rfl, ⟨hs, _⟩ | ⟨_, _, h⟩⟩
  ·
   rw [hR, if_neg (by simp), if_pos rfl]
  ·
   rw [hR, if_neg (by simp [hs]), if_neg (by simp), List.tail_drop]
  ·
   rw [h0] at h
   exact absurd h (by decide)
 rcases hM with ⟨hy, rfl, rfl⟩ | ⟨h0, ⟨x, hx, rfl, hx2, rfl, rfl, hn⟩ | ⟨er, hx, rfl, rfl, hne⟩⟩
 ·
  refine Or.inr ⟨hy, by omega, ?_⟩
  rcases hT with ⟨_, _, _, h⟩ | ⟨rfl, rfl, ⟨_, _, h⟩ | ⟨hs, rfl, rfl⟩⟩
  ·
   exact absurd h hy
  ·
   exact absurd h hy
  ·
   rw [hR, if_pos ⟨rfl, hs⟩]
   rfl
 ·
  refine Or.inl ⟨rfl, hn, kf, by omega, ?_⟩
  rw [go h0, hx, ← hx2]
  rfl
 ·
  refine Or.inr ⟨hne, by omega, ?_⟩
  rw [go h0, hx]
  rfl
theorem mes_lt {R : Rc} {W W' : World} {i j : Nat} {dp fp dp' fp' fy' : Int} (h : Pd R W i dp fp 0) (h' : Pd R W' j dp' fp' fy') (hj : i < j) (hi : i ≤ R.n) : mesN R W' < mesN R W := by
 rw [h.mes0]
 by_cases hy : fy' = 0
 ·
  subst hy
  rw [h'.mes0]
  omega
 ·
  rw [h'.mes1 hy]
  omega
/-- What stands behind the braces. -/
def BrO (R : Rc) (res : Rs (List Mt)) (acc : List Mt) (j : Nat) (fp fy : Int) : Prop :=
 (fy = 0 ∧ j ≤ R.n ∧ res = .inr (acc, R.T.drop j)) ∨ (fy ≠ 0 ∧ j ≤ R.n + 6 ∧ res = .inl (fp, fy))
/-- What stands behind the window. -/
def SeO (R : Rc) (p : Int) (res : Rs Ex) (acc : List Mt) (r : Int) (j : Nat) (fp fy : Int) : Prop :=
 (fy = 0 ∧ j ≤ R.n ∧ res = .inr (eSel p acc r, R.T.drop j)) ∨ (fy ≠ 0 ∧ j ≤ R.n + 10 ∧ res = .inl (fp, fy))
end Go.Proofs.YteankdaegdhfiaaGreatDoor
