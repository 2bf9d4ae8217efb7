/- What is printed, line by line; a map looked into and written, operation by operation. -/
import Derived.Test.YtcbjhfnlhpallaaGreatDoorESLine
import Derived.Test.YtcbjhfnlhpallaaGreatDoorEIsS
import Derived.Test.YtcbjhfnlhpallaaGreatDoorEView
namespace Go.Proofs.YtcbjhfnlhpallaaGreatDoor
open Go.RowKit Go.Maps

/-! ### In plain words -/
def kst (k : Str → Int) : List Scr → Str → Int
  | [] => k
  | x :: r => kst (if k (mname x) = x.kind then k else upd k (mname x) x.kind) r
def one1 (k : Str → Int) (x : Scr) : List Str := if k (mname x) = x.kind then [sLine x] else [kLine (mname x) x.kind, sLine x]
theorem prL_append : ∀ (a b : List Scr) (k : Str → Int), prL k (a ++ b) = prL k a ++ prL (kst k a) b
  | [], b, k => rfl
  | x :: a, b, k => by
    rw [List.cons_append, prL, prL, kst]
    by_cases h : k (mname x) = x.kind
    · rw [if_pos h, if_pos h, if_pos h, prL_append a b]; rfl
    · rw [if_neg h, if_neg h, if_neg h, prL_append a b]; rfl
theorem kst_append : ∀ (a b : List Scr) (k : Str → Int), kst k (a ++ b) = kst (kst k a) b
  | [], b, k => rfl
  | x :: a, b, k => by rw [List.cons_append, kst, kst, kst_append a b]
theorem prL_one (k : Str → Int) (x : Scr) : prL k [x] = one1 k x := by
  unfold one1
  rw [prL]
  split <;> rfl
abbrev zk : Str → Int := fun _ => 0
theorem pr_take {o : List Scr} {j : Nat} (h : j < o.length) : prL zk (o.take (j + 1)) = prL zk (o.take j) ++ one1 (kst zk (o.take j)) (o.getD j scr0) ∧ kst zk (o.take (j + 1)) = if kst zk (o.take j) (mname (o.getD j scr0)) = (o.getD j scr0).kind then kst zk (o.take j) else upd (kst zk (o.take j)) (mname (o.getD j scr0)) (o.getD j scr0).kind := by
  have e : o.take (j + 1) = o.take j ++ [o.getD j scr0] := by
    rw [List.take_succ_eq_append_getElem h]
    simp [List.getD, List.getElem?_eq_getElem h]
  rw [e, prL_append, prL_one, kst_append]
  exact ⟨rfl, rfl⟩
theorem prL_len : ∀ (l : List Scr) (k : Str → Int), (prL k l).length ≤ 2 * l.length
  | [], k => by simp [prL]
  | x :: r, k => by
    rw [prL]
    split
    · have := prL_len r k; simp; omega
    · have := prL_len r (upd k (mname x) x.kind); simp; omega
theorem kLine_len {n : Str} (k : Int) (h : n.length ≤ 20) : (kLine n k).length ≤ 35 := by
  have := kwd_len k
  unfold kLine
  simp
  omega
theorem good_name {x : Scr} (h : good x = true) : (mname x).length ≤ 20 := (name_len ((isS_iff x).1 ((good_iff x).1 h).1).2.1).2
theorem prL_all : ∀ (l : List Scr) (k : Str → Int), (∀ x ∈ l, good x = true) → ∀ a ∈ prL k l, a.length ≤ 300
  | [], k, _, a, ha => by simp [prL] at ha
  | x :: r, k, h, a, ha => by
    have hx := h x (by simp)
    have hs := ((good_iff x).1 hx).2
    have hk := kLine_len x.kind (good_name hx)
    rw [prL] at ha
    split at ha
    · rcases List.mem_cons.1 ha with rfl | ha
      · exact hs
      · exact prL_all r k (fun y hy => h y (by simp [hy])) a ha
    · rcases List.mem_cons.1 ha with rfl | ha
      · omega
      · rcases List.mem_cons.1 ha with rfl | ha
        · exact hs
        · exact prL_all r _ (fun y hy => h y (by simp [hy])) a ha
theorem ended_bound : ∀ (l : List Str), (∀ a ∈ l, a.length ≤ 300) → (ended l).length ≤ l.length * 301
  | [], _ => by simp [ended_nil]
  | a :: l, h => by
    have h1 := h a (by simp)
    have h2 := ended_bound l (fun b hb => h b (by simp [hb]))
    rw [ended_cons]
    simp
    omega
theorem pr_bound {o : List Scr} {j : Nat} (hn : o.length ≤ 12) (h : ∀ x ∈ o.take j, good x = true) : (prL zk (o.take j)).length ≤ 24 ∧ (ended (prL zk (o.take j))).length ≤ 7224 := by
  have h1 := prL_len (o.take j) zk
  have h2 := ended_bound _ (prL_all _ zk h)
  have h3 : (o.take j).length ≤ o.length := by rw [List.length_take]; omega
  omega
theorem printS_no {o : List Scr} {j : Nat} (h : j < o.length) (hg : good (o.getD j scr0) = false) : fPrintS o = [] := by
  unfold fPrintS
  have hm : o.getD j scr0 ∈ o := by simp [List.getD, List.getElem?_eq_getElem h]
  rw [if_neg (fun ha => by
    have := List.all_eq_true.1 ha _ hm
    rw [hg] at this
    cases this)]
theorem printS_yes {o : List Scr} (h : ∀ x ∈ o, good x = true) : fPrintS o = ended (prL zk o) := by
  unfold fPrintS
  rw [if_pos (List.all_eq_true.2 h)]
theorem good_snoc {o : List Scr} {j : Nat} (h : j < o.length) (hg : ∀ x ∈ o.take j, good x = true) (hx : good (o.getD j scr0) = true) : ∀ x ∈ o.take (j + 1), good x = true := by
  intro x hm
  rw [List.take_succ_eq_append_getElem h] at hm
  rcases List.mem_append.1 hm with hm | hm
  · exact hg x hm
  · simp at hm
    subst hm
    simpa [List.getD, List.getElem?_eq_getElem h] using hx
def Wf (o : List Scr) : Prop := ∀ x ∈ o, x.ls.length ≤ 1000000 ∧ Fit x.ls ∧ Fx.R64 x.n ∧ Fx.R64 x.t ∧ Fx.R64 x.kind
theorem Wf.at {o : List Scr} (h : Wf o) (j : Nat) : (o.getD j scr0).ls.length ≤ 1000000 ∧ Fit (o.getD j scr0).ls ∧ Fx.R64 (o.getD j scr0).n ∧ Fx.R64 (o.getD j scr0).t ∧ Fx.R64 (o.getD j scr0).kind := by
  by_cases hj : j < o.length
  · exact h _ (by simp [List.getD, List.getElem?_eq_getElem hj])
  · have e : o.getD j scr0 = scr0 := by simp [List.getD, List.getElem?_eq_none (by omega : o.length ≤ j)]
    rw [e]
    exact ⟨by simp [scr0], fun p hp => (by cases hp), by unfold Fx.R64; simp [scr0], by unfold Fx.R64; simp [scr0], by unfold Fx.R64; simp [scr0]⟩

/-! ### A map, operation by operation -/
theorem wpList_look {ops : Array Oper} {rest : List Oper} {o : Oper} {a : Act} {W : World} {Q : Exit → Act → World → Prop} (hgd : o.guard = none) (m x : Operand) (hop : o.op = Op.lookup 65 m x false)
    (b n : Nat) (k : Str → Int) (s : Str) (hm : a.eval m = .map (some b)) (hx : a.eval x = tx s) (hk : Km W b n k) (hs : s.length ≤ 1000000)
    (h : wpList Tryz.prog ops Q rest (a.put o.dst (.int .i64 (k s))) W) : wpList Tryz.prog ops Q (o :: rest) a W := by
  refine wpList_plain hgd fun K hK => ?_
  obtain ⟨D, h1, h2, h3⟩ := hk
  obtain ⟨c, hrun, hat, _⟩ := h1.lookup_int law9 Tryz.underlying65 Tryz.underlying3 (zero3 _) (key_tx s hs)
  have hc : c = k s := by
    have e := hat.symm.trans (h3 s)
    simpa only [DataW.lit.injEq, Lit.int.injEq, true_and] using e
  subst hc
  unfold Oper.wp
  simp [execOp, hop, hm, hx, hrun, Result.andThen]
  exact hK _ _ h
theorem wpList_put {ops : Array Oper} {rest : List Oper} {o : Oper} {a : Act} {W : World} {Q : Exit → Act → World → Prop} (hgd : o.guard = none) (m x v : Operand) (hop : o.op = Op.mapUpdate 65 m x v)
    (b n : Nat) (k : Str → Int) (s : Str) (y : Int) (hm : a.eval m = .map (some b)) (hx : a.eval x = tx s) (hv : a.eval v = .int .i64 y) (hk : Km W b n k) (hn : n ≤ 1000000) (hs : s.length ≤ 1000000) (hy : (Lit.int .i64 y).wf = true)
    (h : ∀ w', Km w' b (n + 1) (upd k s y) → W.grownBy w' (some b) → wpList Tryz.prog ops Q rest (a.put o.dst undef) w') : wpList Tryz.prog ops Q (o :: rest) a W := by
  refine wpList_plain hgd fun K hK => ?_
  obtain ⟨D, h1, h2, h3⟩ := hk
  obtain ⟨w', hrun, r1, r2⟩ := h1.update law9 Tryz.underlying65 (by unfold maxLen; omega) (key_tx s hs) (plainElem_int Tryz.underlying3 hy)
  unfold Oper.wp
  simp [execOp, hop, hm, hx, hv, hrun, Result.andThen]
  exact hK _ _ (h w' (Km.put h2 h3 r1) r2)
theorem Km.later {w w' : World} {b n : Nat} {k : Str → Int} (h : Km w b n k) (hb : Below w.heap.size w w') : Km w' b n k := h.kept (grown_below hb none) (by simp)
theorem wf64 {y : Int} (h : Fx.R64 y) : (Lit.int .i64 y).wf = true := by
  obtain ⟨h1, h2⟩ := h
  simp [Lit.wf, IntKind.min, IntKind.max, IntKind.signed, IntKind.bits]
  omega
end Go.Proofs.YtcbjhfnlhpallaaGreatDoor
