/- Texts that the others lean on. -/
import Derived.Test.YteankdaegdhfiaaGreatDoorKYPd7
import Derived.Test.YteankdaegdhfiaaGreatDoorKYPd8
import Derived.Test.YteankdaegdhfiaaGreatDoorKYPd9
import Derived.Test.YteankdaegdhfiaaGreatDoorKMF
namespace Go.Proofs.YteankdaegdhfiaaGreatDoor
open Go.RowKit
theorem rmk2 {ops : Array Oper} {o : Oper} {a : Act} {W : World} {K : Act → World → Prop} {Q : Exit → Act → World → Prop} {E : Prop} (x y : Operand) (d : Option Tmp) (ho : o.op = .buildSlice 27 2 #[(0, x), (1, y)]) (hd : o.dst = d) (hw : Region.wanted o (yielded ops a.tmps) = true) (cs ds : Array Value) (hx : a.eval x = .agg cs) (hy : a.eval y = .agg ds) (hn : cs.size = 13) (hm : ds.size = 13)
  (h : ∀ W', W'.heap[W.heap.size]? = some (.cells (cs ++ ds) 29) → Below W.heap.size W W' → W.heap.size + 1 ≤ W'.heap.size → K (a.put d (.slice (some ⟨W.heap.size, 0, none⟩) 2 2)) W') : if Region.wanted o (yielded ops a.tmps) = true then Oper.wp Tryz.prog o a W K Q else E := by
 subst hd
 rw [if_pos hw]
 have k := h _ (heap_new W _) (bal (Below.refl _ _) _) (size_le _ _)
 have e : (Array.map (fun z : Nat × Operand => (z.1, a.eval z.2)) #[(0, x), (1, y)]) = #[(0, .agg cs), (1, .agg ds)] := by simp [hx, hy]
 unfold Oper.wp execOp
 simp only [ho, e, Sem.run_bind, Result.andThen_ok, run_mk2 W cs ds hn hm]
 exact k
def AnyO (R : Rc) (lo : Nat) (dp : Int) (sp : List Tk → Rs Ex) (i : Nat) (fp fy : Int) (cs : Array Value) (w' : World) (j : Nat) (fp' fy' : Int) : Prop :=
 (fy ≠ 0 ∧ fp' = fp ∧ fy' = fy ∧ j ≤ i + 1) ∨ (fy = 0 ∧ ((∃ x, sp (R.T.drop i) = .inr x ∧ x.2 = R.T.drop j ∧ j ≤ R.n ∧ fy' = 0 ∧ Tr lo w' x.1 cs) ∨ (∃ er, sp (R.T.drop i) = .inl er ∧ fp' = er.1 ∧ fy' = er.2 ∧ er.2 ≠ 0 ∧ (j : Int) ≤ R.n + 40 - dp)))
def AnyR (R : Rc) (F : Nat) (ar : Array Value) (dp : Int) (sp : List Tk → Rs Ex) : Prop := ∀ (w : World) (i : Nat) (fp fy : Int), (fy = 0 → i ≤ R.n) → (fy ≠ 0 → i + 1 ≤ R.n + 100) → Pd R w i dp fp fy → Calls Tryz.prog F ar w fun e w' => ∃ cs j fp' fy', e = .returned (.agg cs) ∧ Row 13 cs ∧ Pd R w' j dp fp' fy' ∧ Off [R.b] w w' ∧ Hid (AnyO R w.heap.size dp sp i fp fy cs w' j fp' fy')
theorem AnyR.of {R : Rc} {F : Nat} {ar : Array Value} {dp : Int} {sp : List Tk → Rs Ex} (h1 : RunR R F ar dp sp) (h2 : OldR R F ar dp) : AnyR R F ar dp sp := by
 intro w i fp fy a b h
 by_cases hy : fy = 0
 ·
  subst hy
  refine (h1 w i fp (a rfl) h).mono ?_
  rintro e w' ⟨cs, rfl, V⟩
  have row := V.row
  have ho := V.heap
  cases hr : sp (R.T.drop i) with
  | inr x =>
   rw [hr] at V
   obtain ⟨j, fq, q1, q2, q3, q4, q5⟩ := V
   exact ⟨cs, j, fq, 0, rfl, row, q3, ho, Or.inr ⟨rfl, Or.inl ⟨x, hr, q1, q2, rfl, q4⟩⟩⟩
  | inl er =>
   rw [hr] at V
   obtain ⟨j, q1, q2, q3, q4, q5⟩ := V
   exact ⟨cs, j, er.1, er.2, rfl, row, q4, ho, Or.inr ⟨rfl, Or.inr ⟨er, hr, rfl, rfl, q3, q2⟩⟩⟩
 ·
  refine (h2 w i fp fy hy (b hy) h).mono ?_
  rintro e w' ⟨cs, j, rfl, row, hj, P, ho⟩
  exact ⟨cs, j, fp, fy, rfl, row, P, ho, Or.inl ⟨hy, rfl, rfl, hj⟩⟩
theorem AnyR.run {R : Rc} {F : Nat} {ar : Array Value} {dp : Int} {sp : List Tk → Rs Ex} (h : AnyR R F ar dp sp) : RunR R F ar dp sp := by
 intro w i fp hin hp
 refine (h w i fp 0 (fun _ => hin) (fun q => absurd rfl q) hp).mono ?_
 rintro e w' ⟨cs, j, fp', fy', rfl, row, P, ho, HO⟩
 refine ⟨cs, rfl, ?_⟩
 rcases HO.out with ⟨q, _⟩ | ⟨_, ⟨x, q1, q2, q3, rfl, q4⟩ | ⟨er, q1, rfl, rfl, q2, q3⟩⟩
 ·
  exact absurd rfl q
 ·
  rw [q1]
  exact ⟨j, fp', q2, q3, P, q4, ho⟩
 ·
  rw [q1]
  exact ⟨j, row, q3, q2, P, ho⟩
set_option maxHeartbeats 4000000 in
theorem rbin3 (R : Rc) (dp : Int) (u : List Tk → Rs Ex) (hU : AnyR R 66 #[R.ptr] dp u) : AnyR R 42 #[R.ptr, .int .i64 3] dp u := by
 intro w i fp fy ha hb h
 have hbl := h.bl
 go_enter Tryz.func42, Tryz.ntmps42
 have a1 := bal (Below.refl w.heap.size w) (.cells zE 29)
 have zz := size_le w (.cells zE 29)
 have rd1 := h.later a1
 have O1 := (Off.refl [R.b] w).on a1
 have res1 := heap_new w (.cells zE 29)
 clear h a1
 have hc := hU _ i fp fy ha hb rd1
 clear hU
 go_wp2_with fail
 refine hc.mono ?_
 rintro e w2 ⟨cs, j, fp', fy', rfl, row, P2, o2, HO⟩
 have rs := o2.heap res1 (by simp <;> omega)
 have z2 := o2.size
 clear hc
 go_wp2_with (refine wp_put rfl 29 _ _ rfl w.heap.size cs rfl rfl _ 29 rs 13 inf29 rfl row ?_; intro we re oe ze)
 refine bodyPost_ret (res_cell Tryz.results42 _ _ w.heap.size 29 cs _ rfl re Tryz.underlying29 rfl 13 inf29 row.1) rfl ⟨cs, j, fp', fy', rfl, row, P2.off oe (by simp <;> omega), (O1.then o2).trans oe (by simp), ?_⟩
 rcases HO.out with q | ⟨q0, ⟨x, q1, q2, q3, q5, q4⟩ | q⟩
 ·
  exact Or.inl q
 ·
  exact Or.inr ⟨q0, Or.inl ⟨x, q1, q2, q3, q5, Tr.lower (by omega) _ (Tr.off oe (by simp <;> omega) _ q4)⟩⟩
 ·
  exact Or.inr ⟨q0, Or.inr q⟩
/-- What the loop over operators keeps. -/
structure Bn (R : Rc) (w : World) (eb : Nat) (W : World) (cs : Array Value) (i : Nat) (dp fp fy : Int) : Prop where
 rd : Pd R W i dp fp fy
 lc : W.heap[eb]? = some (.cells cs 29)
 row : Row 13 cs
 res : W.heap[w.heap.size]? = some (.cells zE 29)
 off : Off [R.b] w W
 bl : R.b < w.heap.size
 l1 : w.heap.size < eb
theorem Bn.later {R : Rc} {w : World} {eb : Nat} {W W' : World} {cs : Array Value} {i : Nat} {dp fp fy : Int} (h : Bn R w eb W cs i dp fp fy) (hb : Below W.heap.size W W') : Bn R w eb W' cs i dp fp fy :=
 ⟨h.rd.later hb, below_heap hb h.lc, h.row, below_heap hb h.res, h.off.on hb, h.bl, h.l1⟩
theorem Bn.read {R : Rc} {w : World} {eb : Nat} {W W' : World} {cs : Array Value} {i j : Nat} {dp fp fy dp' fp' fy' : Int} (h : Bn R w eb W cs i dp fp fy) (hr : Pd R W' j dp' fp' fy') (ho : Off [R.b] W W') : Bn R w eb W' cs j dp' fp' fy' := by
 have hb := h.bl
 have hl := h.l1
 exact ⟨hr, ho.heap h.lc (by simp; omega), h.row, ho.heap h.res (by simp; omega), h.off.then ho, hb, hl⟩
theorem Bn.next {R : Rc} {w : World} {eb : Nat} {W : World} {cs : Array Value} {i : Nat} {dp fp fy : Int} (h : Bn R w eb W cs i dp fp fy) (j : Nat) (hj : j ≤ R.n + 100) : Bn R w eb (W.setCell ⟨R.b, 1, none⟩ (.int .i64 (j : Int))) cs j dp fp fy :=
 h.read (h.rd.put (j := j) (dp' := dp) (fp' := fp) (fy' := fy) (set_off W R.b 1 _) hj (set_heap h.rd.h 1 _)) (set_off W R.b 1 _)
theorem Bn.node {R : Rc} {w : World} {eb nb : Nat} {W W' : World} {cs : Array Value} {i : Nat} {dp fp fy : Int} (h : Bn R w eb W cs i dp fp fy) (hn : eb < nb) (ho : Off [nb] W W') : Bn R w eb W' cs i dp fp fy := by
 have hb := h.bl
 have hl := h.l1
 exact ⟨h.rd.off ho (by simp; omega), ho.heap h.lc (by simp; omega), h.row, ho.heap h.res (by simp; omega), h.off.trans ho (by simp; omega), hb, hl⟩
theorem Bn.put {R : Rc} {w : World} {eb : Nat} {W W' : World} {cs cs' : Array Value} {i : Nat} {dp fp fy : Int} (h : Bn R w eb W cs i dp fp fy) (hr : Row 13 cs') (hl' : W'.heap[eb]? = some (.cells cs' 29)) (ho : Off [eb] W W') : Bn R w eb W' cs' i dp fp fy := by
 have hb := h.bl
 have hl := h.l1
 exact ⟨h.rd.off ho (by simp; omega), hl', hr, ho.heap h.res (by simp; omega), h.off.trans ho (by simp; omega), hb, hl⟩
def BnS (R : Rc) (P : Nat → Prop) (lev : Int) (u : List Tk → Rs Ex) (RES : Rs Ex) (wr : World) (dp : Int) (i0 : Nat) (fp0 fy0 : Int) (i : Nat) (fp fy : Int) (cs : Array Value) : Prop :=
 (fy0 = 0 ∧ fy = 0 ∧ i ≤ R.n ∧ ∃ e k, TrP P wr e cs ∧ R.n - i < k ∧ RES = chF R.q lev u k e (R.T.drop i)) ∨ (fy0 = 0 ∧ fy ≠ 0 ∧ RES = .inl (fp, fy) ∧ (i : Int) ≤ R.n + 40 - dp) ∨ (fy0 ≠ 0 ∧ fy ≠ 0 ∧ fp = fp0 ∧ fy = fy0 ∧ i ≤ i0 + 1)
theorem mes_lt2 {R : Rc} {W W' : World} {i j : Nat} {dp fp dp' fp' fy' : Int} (h : Pd R W i dp fp 0) (h' : Pd R W' j dp' fp' fy') (hj : fy' = 0 → i < j) (hi : i ≤ R.n) : mesN R W' < mesN R W := by
 rw [h.mes0]
 by_cases hy : fy' = 0
 ·
  have := hj hy
  subst hy
  rw [h'.mes0]
  omega
 ·
  rw [h'.mes1 hy]
  omega
def MdO (R : Rc) (nb : Nat) (W : World) (i : Nat) (on ig : Bool) (v : Value) (ns : List Str) (j : Nat) (fp fy : Int) : Prop :=
 (fy = 0 ∧ j ≤ R.n ∧ modP R.q (R.T.drop i) = .inr (⟨on, ig, ns⟩, R.T.drop j) ∧ SlP (fun b => nb < b) W v ns.length (ns.map tx)) ∨ (fy ≠ 0 ∧ j ≤ R.n + 6 ∧ modP R.q (R.T.drop i) = .inl (fp, fy))
/-- A round's end. -/
theorem bn_step (R : Rc) {P : Nat → Prop} {lev : Int} {u : List Tk → Rs Ex} {RES : Rs Ex} {W1 W2 wn : World} {dp fp0 fp2 fp3 fy2 fy3 : Int} {i0 i j j3 k nb kb eb lo : Nat} {e : Ex} {x : Tk} {cs cs2 : Array Value} {on ig : Bool} {v : Value} {ns : List Str}
  (h15 : dp ≤ 15) (hS : Shr u) (hT : R.T.length = R.n) (hi : i < R.n) (hx : hd R.q (R.T.drop i) = x) (hop : isOp R.q lev (R.T.drop i) = true) (hR : RES = chF R.q lev u (k + 1) e (R.T.drop i)) (hk : R.n - i < k + 1)
  (hM : MdO R nb W1 (i + 1) on ig v ns j fp2 fy2) (hO : AnyO R lo dp u j fp2 fy2 cs2 W2 j3 fp3 fy3) (hPa : ∀ b, eb < b → P b) (hnb : eb < nb) (hlo : eb < lo) (hkb : eb < kb)
  (hsl : ∀ n cs', SlP (fun b => nb < b) W1 v n cs' → SlP (fun b => nb < b) wn v n cs') (hkd : wn.heap[kb]? = some (.cells (cs ++ cs2) 29)) (hTe : TrP P wn e cs) (hT2 : ∀ e', Tr lo W2 e' cs2 → Tr lo wn e' cs2) :
  BnS R P lev u RES wn dp i0 fp0 0 j3 fp3 fy3 (exA 5 x.p false 0 x.t nl 0 false false on ig v (.slice (some ⟨kb, 0, none⟩) 2 2)) ∧ (fy3 = 0 → i < j3) := by
 have hR2 : RES = bnd (joinP R.q u e (R.T.drop i)) fun x => chF R.q lev u k x.1 x.2 := by rw [hR, chF, if_neg (by rw [hop]; decide)]
 have hJ : joinP R.q u e (R.T.drop i) = bnd (modP R.q (R.T.drop (i + 1))) fun a => bnd (u a.2) fun y => .inr (eBin x.p x.t a.1.on a.1.ig a.1.ns e y.1, y.2) := by
  unfold joinP
  rw [List.tail_drop, hx]
 rcases hM with ⟨rfl, hj, hm, sl⟩ | ⟨hy2, hj, hm⟩
 ·
  rcases hO with ⟨q, _⟩ | ⟨_, ⟨z, q1, q2, q3, rfl, q4⟩ | ⟨er, q1, rfl, rfl, q2, q3⟩⟩
  ·
   exact absurd rfl q
  ·
   have hJ2 : joinP R.q u e (R.T.drop i) = .inr (eBin x.p x.t on ig ns e z.1, R.T.drop j3) := by
    rw [hJ, hm]
    show bnd (u (R.T.drop j)) _ = _
    rw [q1, ← q2]
    rfl
   have hsh := shr_joinP R.q u hS e _ _ hJ2
   have hij : i + 1 ≤ j3 := by
    rw [List.tail_drop, List.length_drop, List.length_drop, hT] at hsh
    omega
   refine ⟨Or.inl ⟨rfl, rfl, q3, eBin x.p x.t on ig ns e z.1, k, ?_, by omega, by rw [hR2, hJ2]; rfl⟩, fun _ => by omega⟩
   exact Tr.kid2 (Sl.nil _ _ _) (SlP.mono (hsl _ _ sl) (fun b hb => hPa b (by omega))) hkd (hPa _ hkb) hTe (TrP.mono (fun b hb => hPa b (by omega)) _ (hT2 _ q4))
  ·
   refine ⟨Or.inr (Or.inl ⟨rfl, q2, ?_, q3⟩), fun q => absurd q q2⟩
   rw [hR2, hJ, hm]
   show bnd (bnd (u (R.T.drop j)) _) _ = _
   rw [q1]
   rfl
 ·
  rcases hO with ⟨_, rfl, rfl, q⟩ | ⟨q, _⟩
  ·
   refine ⟨Or.inr (Or.inl ⟨rfl, hy2, ?_, by omega⟩), fun q => absurd q hy2⟩
   rw [hR2, hJ, hm]
   rfl
  ·
   exact absurd q hy2
end Go.Proofs.YteankdaegdhfiaaGreatDoor
