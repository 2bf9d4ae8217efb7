/- Texts that the others lean on. -/
import Derived.Test.YtjgckfcocmhnhaaGreatDoorKMS
import Derived.OwnWalk
import Derived.Laws.IdiomCopy
import Derived.Lib.Overlaps
import Derived.Lib.AppendZerosOnto
import Derived.Laws.NewBlocks
namespace Go.Proofs.YtjgckfcocmhnhaaGreatDoor.Sr
open Go.RowKit Rn
theorem now_any (sb : Nat) (now : Int) (base : Nat) (ao : Option Addr) (n cap : Nat) (rs : List SRec) (w : World) (h : Sx w sb now base ao n cap rs) :
  Calls Tryz.prog 17 #[.pointer (some ⟨sb, 0, none⟩)] w fun e w' => e = .returned (.int .i64 now) ∧ Below w.heap.size w w' := by
 have c1 := h.c1
 go_enter Tryz.func17, Tryz.ntmps17
 go_wp2
 go_ret
 exact ⟨rfl, Below.refl _ _⟩
theorem len_any (sb : Nat) (now : Int) (base : Nat) (ao : Option Addr) (n cap : Nat) (rs : List SRec) (w : World) (h : Sx w sb now base ao n cap rs) :
  Calls Tryz.prog 19 #[.pointer (some ⟨sb, 0, none⟩)] w fun e w' => e = .returned (.int .i64 n) ∧ Below w.heap.size w w' := by
 have c0 := h.c0
 go_enter Tryz.func19, Tryz.ntmps19
 go_wp2
 go_ret
 exact ⟨rfl, Below.refl _ _⟩
theorem new_sx (w : World) :
  Calls Tryz.prog 10 #[] w fun e w' => e = .returned (.pointer (some ⟨w.heap.size, 0, none⟩)) ∧ Sx w' w.heap.size 0 w.heap.size none 0 0 [] ∧ Below w.heap.size w w' := by
 go_enter Tryz.func10, Tryz.ntmps10
 go_wp2
 go_ret
 refine ⟨rfl, ⟨by simp [go_sem], by simp [go_sem], by simp [go_sem], by simp [go_sem], Ty.new _ _ _, World.ownsRow_nil _ _ _ _, by simp, by simp, by simp, by simp, by simp, List.Pairwise.nil⟩, bal (Below.refl _ _) _⟩
def cellsQ (a : List Lb.Pr) : List Value := a.flatMap fun p => [Lb.tx p.1, Lb.tx p.2]
theorem cellsQ_cons (p : Lb.Pr) (a : List Lb.Pr) : cellsQ (p :: a) = Lb.tx p.1 :: Lb.tx p.2 :: cellsQ a := rfl
theorem cellsQ_length (a : List Lb.Pr) : (cellsQ a).length = a.length * 2 := by
 induction a with
 | nil => rfl
 | cons r rs ih => rw [cellsQ_cons, List.length_cons, List.length_cons, ih, List.length_cons]; omega
theorem cellsQ_one (a : List Lb.Pr) : ∀ u ∈ cellsQ a, u.oneCell' = true := by
 intro u hu
 obtain ⟨r, hr, hx⟩ := List.mem_flatMap.1 hu
 simp only [List.mem_cons, List.not_mem_nil, or_false] at hx
 rcases hx with rfl | rfl <;> rfl
theorem cellsQ_get {a : List Lb.Pr} {j : Nat} (h : j < a.length) : (cellsQ a)[j * 2]? = some (Lb.tx (a.getD j ([], [])).1) ∧ (cellsQ a)[j * 2 + 1]? = some (Lb.tx (a.getD j ([], [])).2) := by
 induction a generalizing j with
 | nil => simp at h
 | cons p l ih =>
  rw [cellsQ_cons]
  cases j with
  | zero => simp
  | succ j =>
   have := ih (j := j) (by simpa using h)
   rw [show (j + 1) * 2 = j * 2 + 2 by omega]
   simpa using this
theorem ps_cells {w : World} {ad : Addr} {n : Nat} {l : List Lb.Pr} (h : Lb.Ps w (some ad) n l) : ∀ j u, (cellsQ l)[j]? = some u → w.cell? (ad.add j) = some u := by
 intro j u hu
 have hlen := h.1
 have hj : j < l.length * 2 := by
  by_cases hj : j < l.length * 2
  ·
   exact hj
  ·
   rw [List.getElem?_eq_none (by rw [cellsQ_length]; omega)] at hu; cases hu
 obtain ⟨b, off, e, h4⟩ := h.2 (by omega)
 cases e
 rw [Addr.add_lit]
 have hjd : j / 2 < l.length := by omega
 obtain ⟨g1, g2⟩ := cellsQ_get hjd
 obtain ⟨c1, c2⟩ := h4 (j / 2) (by omega)
 have hjj : j = j / 2 * 2 ∨ j = j / 2 * 2 + 1 := by omega
 generalize j / 2 = i at *
 rcases hjj with rfl | rfl
 ·
  rw [g1] at hu
  cases hu
  exact c1
 ·
  rw [g2] at hu
  cases hu
  rw [← Nat.add_assoc]
  exact c2
/-- New memory of its own that holds these pairs. -/
theorem pq_own {w : World} {base : Nat} {v : Value} {a : List Lb.Pr} (h : w.ownsRow base 45 2 v a.length (cellsQ a)) (hn : a.length ≤ 1000000) : Pq w v a := by
 have h' := h
 rcases h.2 with ⟨rfl, h0⟩ | ⟨g, cap, cur, rfl, hb, hg, hn', _, hs, ht⟩
 ·
  have : a = [] := List.length_eq_zero_iff.1 h0
  subst this
  exact ⟨none, 0, 0, rfl, by omega, ⟨rfl, fun h => by omega⟩, fun g e => by simp [Value.ownBlock] at e⟩
 ·
  refine ⟨_, _, cap, rfl, hn, ⟨rfl, fun _ => ⟨g, 0, rfl, fun j hj => ?_⟩⟩, fun g' e => row_ty h' e⟩
  have e : ∀ i, i < a.length * 2 → w.cell? ⟨g, 0 + i, none⟩ = (cellsQ a)[i]? := fun i hi => by
   rw [cell_of_row _ _ _ _ _ _ hg, ← ht, List.getElem?_take_of_lt hi, Nat.zero_add]
   exact (Array.getElem?_toList).symm
  obtain ⟨g1, g2⟩ := cellsQ_get hj
  exact ⟨(e _ (by omega)).trans g1, (e (j * 2 + 1) (by omega)).trans g2⟩
theorem infoQ : (Tryz.prog.info? 45).map (fun i => (i.zero, i.size, i.bytes)) = some (some (.agg #[.string ⟨#[]⟩, .string ⟨#[]⟩]), 2, 32) := by kernel_rfl
theorem infoQ_parts : ∃ i, Tryz.prog.info? 45 = some i ∧ i.zero = some (.agg #[.string ⟨#[]⟩, .string ⟨#[]⟩]) ∧ i.size = 2 ∧ i.bytes = 32 := by
 have h := infoQ
 cases hi : Tryz.prog.info? 45 with
 | none => rw [hi] at h; cases h
 | some i =>
  rw [hi] at h
  simp only [Option.map_some, Option.some.injEq, Prod.mk.injEq] at h
  exact ⟨i, rfl, h.1, h.2.1, h.2.2⟩
theorem zeroQ : (Value.agg #[.string ⟨#[]⟩, .string ⟨#[]⟩]).cells.size = 2 := by kernel_rfl
set_option maxHeartbeats 2000000 in
set_option maxRecDepth 100000 in
theorem clone_any (v : Value) (a : List Lb.Pr) (w : World) (h : Pv w v a) :
  Calls Tryz.prog 34 #[v] w fun e w' => ∃ v', e = .returned v' ∧ Pq w' v' a ∧ Below w.heap.size w w' ∧ ∀ g, v'.ownBlock = some g → w.heap.size ≤ g := by
 obtain ⟨i0, hi, hz0, hz1, hz2⟩ := infoQ_parts
 obtain ⟨xa, xn, xc, rfl, hxn, hp⟩ := h
 cases xa with
 | none =>
  have h0 : xn = 0 := by
   rcases Nat.eq_zero_or_pos xn with h | h
   ·
    exact h
   ·
    obtain ⟨b, off, e, _⟩ := hp.2 h
    cases e
  subst h0
  have ha : a = [] := List.length_eq_zero_iff.1 hp.1
  subst ha
  have he : ∀ W, (binOp .eql 31 (.slice none 0 xc) (.slice none 0 0)).run Tryz.prog W = .ok (.bool true) W := fun _ => rfl
  have hnil : Pq w (.slice none 0 0) [] := ⟨none, 0, 0, rfl, by omega, ⟨rfl, fun h => by omega⟩, fun g e => by simp [Value.ownBlock] at e⟩
  clear hp
  go_enter Tryz.func34, Tryz.ntmps34
  go_wp2
  go_ret
  exact ⟨_, rfl, hnil, Below.refl _ _, fun g e => by simp [Value.ownBlock] at e⟩
 | some ad =>
  have hla := hp.1
  have hb0 := bal (Below.refl _ w) (.cells #[] 45)
  have ho : (w.alloc (.cells #[] 45)).ownsRow w.heap.size 45 2 (.slice (some ⟨w.heap.size, 0, none⟩) 0 0) 0 [] := World.ownsRow_made w #[] 0 (Nat.le_refl _) (Nat.zero_le _) (by simp)
  have hpc := ps_cells (hp.later hb0)
  have he : ∀ W, (binOp .eql 31 (.slice (some ad) xn xc) (.slice none 0 0)).run Tryz.prog W = .ok (.bool false) W := fun _ => rfl
  clear hp
  go_enter Tryz.func34, Tryz.ntmps34
  go_wp2_with (at_builtin; go_must (refine wpList_append_own _ rfl _ _ 31 rfl w.heap.size 45 i0 _ 2 32 Tryz.underlying31 hi hz0 hz1 hz2 zeroQ (by decide) _ _ _ rfl ho ad xn xc (cellsQ a) rfl (by rw [cellsQ_length, hla]) ?hnews (cellsQ_one _) ?h63 ?hby ?hbs ?_))
  case hnews => exact hpc
  case h63 => unfold maxLen; omega
  case hby => omega
  case hbs => exact hb0.size
  intro v' w2 ho4 hg4 _
  have ho5 : w2.ownsRow w.heap.size 45 2 v' a.length (cellsQ a) := by
   have := ho4
   rw [hla]
   simpa using this
  go_wp2
  go_ret
  exact ⟨_, rfl, pq_own ho5 (by omega), hb0.grown hg4 hb0.size (fun k hk => by cases hk; exact Nat.le_refl _), fun g hg => (World.ownsRow.lt ho5 g hg).1⟩
end Go.Proofs.YtjgckfcocmhnhaaGreatDoor.Sr
namespace Go.Proofs.YtjgckfcocmhnhaaGreatDoor.Sr
open Go.RowKit Rn
theorem heap_setCells (b : Nat) : ∀ (vs : List Value) (o : Nat) (w : World) (cur : Array Value) (e : TypeId) (fr : Nat × Nat), w.heap[b]? = some (.cells cur e fr) → o + vs.length ≤ cur.size →
  ∃ cur' : Array Value, (w.setCells b o vs).heap[b]? = some (.cells cur' e fr) ∧ cur'.size = cur.size ∧ cur'.toList = cur.toList.take o ++ vs ++ cur.toList.drop (o + vs.length)
 | [], o, w, cur, e, fr, h, _ => ⟨cur, h, rfl, by simp⟩
 | v :: r, o, w, cur, e, fr, h, hs => by
  rw [List.length_cons] at hs
  have h1 : (w.setCell ⟨b, o, none⟩ v).heap[b]? = some (.cells (cur.setIfInBounds o v) e fr) := by
   obtain ⟨hlt, hk⟩ := Array.getElem?_eq_some_iff.1 h
   show (w.heap.modify b _)[b]? = _
   rw [Array.getElem?_eq_getElem (by rw [Array.size_modify]; exact hlt), Array.getElem_modify_self, hk]
   rfl
  obtain ⟨cur', h2, h3, h4⟩ := heap_setCells b r (o + 1) _ _ e fr h1 (by rw [Array.size_setIfInBounds]; omega)
  refine ⟨cur', h2, by rw [h3, Array.size_setIfInBounds], ?_⟩
  rw [h4, Array.toList_setIfInBounds, List.length_cons]
  have hl : o < cur.toList.length := by rw [Array.length_toList]; omega
  rw [List.set_eq_take_append_cons_drop, if_pos hl]
  have e1 : (cur.toList.take o).length = o := by rw [List.length_take]; omega
  rw [List.take_append, e1, List.take_of_length_le (by omega), show o + 1 - o = 1 by omega, List.take_succ_cons, List.take_zero, List.drop_append, e1, List.drop_of_length_le (by omega), show o + 1 + r.length - o = r.length + 1 by omega, List.drop_succ_cons, List.drop_drop, show o + 1 + r.length = o + (r.length + 1) by omega]
  simp
theorem grown_setCells (b : Nat) : ∀ (vs : List Value) (o : Nat) (w : World), w.grownBy (w.setCells b o vs) (some b)
 | [], _, w => grown_below (Below.refl _ w) _
 | v :: r, o, w => (grown_set w b o v).trans (grown_setCells b r (o + 1) _)
theorem infoO : (Tryz.prog.info? 74).map (fun i => (i.zero, i.size, i.bytes)) = some (some (.agg #[.slice none 0 0, .pointer none]), 2, 32) := by kernel_rfl
theorem infoO_parts : ∃ i, Tryz.prog.info? 74 = some i ∧ i.zero = some (.agg #[.slice none 0 0, .pointer none]) ∧ i.size = 2 ∧ i.bytes = 32 := by
 have h := infoO
 cases hi : Tryz.prog.info? 74 with
 | none => rw [hi] at h; cases h
 | some i =>
  rw [hi] at h
  simp only [Option.map_some, Option.some.injEq, Prod.mk.injEq] at h
  exact ⟨i, rfl, h.1, h.2.1, h.2.2⟩
theorem zeroO : (Value.agg #[.slice none 0 0, .pointer none]).cells.size = 2 := by kernel_rfl
/-- Elements of two cells copied. -/
theorem run_copy2 (w : World) (b o dn dc : Nat) (a : Addr) (sn sc m : Nat) (vs : List Value) (hm : Nat.min sn dn = m) (hl : vs.length = m * 2)
  (hsrc : ∀ j v, vs[j]? = some v → w.cell? (a.add j) = some v) (hc : ∀ j, j < m * 2 → (w.cell? ⟨b, o + j, none⟩).isSome = true) (hf : ∀ j, j < m * 2 → w.frozen? ⟨b, o + j, none⟩ = false) (h1 : ∀ v ∈ vs, v.oneCell' = true) :
  (Builtin.copy_ #[69, 69] 3 #[.slice (some ⟨b, o, none⟩) dn dc, .slice (some a) sn sc]).run Tryz.prog w = .ok (.int .i64 m) (w.setCells b o vs) := by
 obtain ⟨i, hi, hz, hs, hb⟩ := infoO_parts
 have hl' := run_loadCells_list (P := Tryz.prog) w a vs hsrc
 have hst := run_storeCells_cells (P := Tryz.prog) b o vs 0 w (by simpa [hl] using hc) (by simpa [hl] using hf) h1
 rw [hl] at hl'
 have hu : Tryz.prog.underlying 69 = some (.slice 74) := Tryz.underlying69
 simp [Builtin.copy_, run_underlying hu, Builtin.lenOf, Builtin.firstCells, sizeOf, typeInfo, hi, hs, hm, hl', hst]
 rfl
theorem wp_copyO (w : World) {o : Oper} {a : Act} {K : Act → World → Prop} {Q : Exit → Act → World → Prop} (d s : Operand)
  (ho : o.op = .call { callee := .builtin .copy, args := #[d, s], argTypes := #[69, 69] }) (ht : o.type = 3) (v u : Value) (hd : a.eval d = v) (hs : a.eval s = u) {v' : Value} {w' : World}
  (hr : (Builtin.copy_ #[69, 69] 3 #[v, u]).run Tryz.prog w = .ok v' w') (h : K (a.put o.dst v') w') : o.wp Tryz.prog a w K Q := by
 unfold Oper.wp execOp
 simp only [ho, ht, resolve, invoke, builtin, Sem.run_bind, Sem.run_pure, Result.andThen_ok, List.map_toArray, List.map_cons, List.map_nil, hd, hs, hr]
 exact h
theorem wpList_copyO (w : World) {ops : Array Oper} {rest : List Oper} {o : Oper} {a : Act} {Q : Exit → Act → World → Prop} (hgd : o.guard = none) (d s : Operand)
  (ho : o.op = .call { callee := .builtin .copy, args := #[d, s], argTypes := #[69, 69] }) (ht : o.type = 3) (v u : Value) (hd : a.eval d = v) (hs : a.eval s = u) {v' : Value} {w' : World}
  (hr : (Builtin.copy_ #[69, 69] 3 #[v, u]).run Tryz.prog w = .ok v' w') (h : wpList Tryz.prog ops Q rest (a.put o.dst v') w') : wpList Tryz.prog ops Q (o :: rest) a w :=
 wpList_plain hgd fun _ hK => wp_copyO w d s ho ht v u hd hs hr (hK _ _ h)
theorem step_copyO {ops : Array Oper} {o : Oper} {a : Act} {w : World} {K : Act → World → Prop} {Q : Exit → Act → World → Prop} {E : Prop}
  (hg : o.guard = none) (d x : Operand) (hop : o.op = Op.call { callee := Callee.builtin Builtin.copy, args := #[d, x], argTypes := #[69, 69] }) (ht : o.type = 3)
  (v u : Value) (hd : a.eval d = v) (hx : a.eval x = u) {v' : Value} {w' : World} (hr : (Builtin.copy_ #[69, 69] 3 #[v, u]).run Tryz.prog w = .ok v' w') (hK : K (a.put o.dst v') w') :
  if Region.wanted o (yielded ops a.tmps) = true then Oper.wp Tryz.prog o a w K Q else E := by
 have hw : Region.wanted o (yielded ops a.tmps) = true := by simp [Region.wanted, hg]
 rw [if_pos hw]
 unfold Oper.wp
 simp [execOp, hop, ht, resolve, invoke, builtin, hd, hx, hr, Result.andThen]
 exact hK
theorem cellsO_take (rs : List SRec) (i : Nat) : (cellsO rs).take (i * 2) = cellsO (rs.take i) := by
 induction rs generalizing i with
 | nil => simp [cellsO]
 | cons r rs ih =>
  cases i with
  | zero => simp [cellsO]
  | succ i => rw [cellsO_cons, show (i + 1) * 2 = i * 2 + 1 + 1 by omega, List.take_succ_cons, List.take_succ_cons, ih, List.take_succ_cons, cellsO_cons]
theorem cellsO_drop (rs : List SRec) (i : Nat) : (cellsO rs).drop (i * 2) = cellsO (rs.drop i) := by
 induction rs generalizing i with
 | nil => simp [cellsO]
 | cons r rs ih =>
  cases i with
  | zero => simp
  | succ i => rw [cellsO_cons, show (i + 1) * 2 = i * 2 + 1 + 1 by omega, List.drop_succ_cons, List.drop_succ_cons, ih, List.drop_succ_cons]
end Go.Proofs.YtjgckfcocmhnhaaGreatDoor.Sr
namespace Go.Proofs.YtjgckfcocmhnhaaGreatDoor.Sr
open Go.RowKit Rn
/-- One more at a row's end: in place, or in a new block. -/
theorem appendO_where (w : World) (base : Nat) (v : Value) (rs : List SRec) (r : SRec) (hown : OwnO w base v rs) (vb : Nat) (hv0 : w.cell? ⟨vb, 0, none⟩ = some r.lab) (hv1 : w.cell? ⟨vb, 1, none⟩ = some (.pointer (some ⟨r.ring, 0, none⟩))) (hr1 : r.lab.oneCell' = true) (hl : rs.length ≤ 1000) (hbase : base ≤ w.heap.size) :
  ∃ v' w', (Builtin.append_ #[69, 69] 69 #[v, .slice (some ⟨vb, 0, none⟩) 1 1]).run Tryz.prog w = .ok v' w' ∧ OwnO w' base v' (rs ++ [r]) ∧ w.grownBy w' v.ownBlock ∧ (v'.ownBlock = v.ownBlock ∨ ∀ k, v'.ownBlock = some k → w.heap.size ≤ k) := by
 obtain ⟨i0, hi, hz0, hz1, hz2⟩ := infoO_parts
 have hu : Tryz.prog.underlying 69 = some (.slice 74) := Tryz.underlying69
 have hnews : ∀ j u, (cellsO [r])[j]? = some u → w.cell? ((⟨vb, 0, none⟩ : Addr).add j) = some u := by
  intro j u hju
  rw [Addr.add_lit, Nat.zero_add]
  match j, hju with
  | 0, hju => rw [hv0]; exact hju
  | 1, hju => rw [hv1]; exact hju
  | j + 2, hju => simp [cellsO, twoO] at hju
 have hone : ∀ u ∈ cellsO [r], u.oneCell' = true := cellsO_one (fun x hx => by cases List.mem_singleton.1 hx; exact hr1)
 have hnl : (cellsO [r]).length = 1 * 2 := by rw [cellsO_length]; rfl
 have h63 : rs.length + 1 ≤ maxLen := by unfold maxLen; omega
 obtain ⟨v', w', hr, h1, h2, _⟩ := run_append_own (P := Tryz.prog) w base 69 69 74 i0 _ 2 32 hu hi hz0 hz1 hz2 zeroO (by decide) v rs.length (cellsO rs) hown ⟨vb, 0, none⟩ 1 1 (cellsO [r]) hnl hnews hone h63 (by omega) hbase
 refine ⟨v', w', hr, by unfold OwnO; rw [cellsO_append, List.length_append]; exact h1, h2, ?_⟩
 rcases hown.2 with ⟨rfl, h0⟩ | ⟨g, cap, cur, rfl, hbg, hg, hnc, hcm, hcs, htake⟩
 ·
  have hx : rs = [] := List.length_eq_zero_iff.1 h0
  subst hx
  obtain ⟨v2, w2, hr2, k1, _, _⟩ := run_append_own (P := Tryz.prog) w w.heap.size 69 69 74 i0 _ 2 32 hu hi hz0 hz1 hz2 zeroO (by decide) (.slice none 0 0) 0 [] (World.ownsRow_nil w w.heap.size 74 2) ⟨vb, 0, none⟩ 1 1 (cellsO [r]) hnl hnews hone (by unfold maxLen; omega) (by omega) (Nat.le_refl _)
  rw [hr] at hr2
  injection hr2 with e1 e2
  subst e1 e2
  exact Or.inr fun k hk => (World.ownsRow.lt k1 k hk).1
 ·
  by_cases hroom : rs.length + 1 ≤ cap
  ·
   have hfit : rs.length * i0.size + (cellsO [r]).length ≤ cur.size := by rw [hnl, hcs, hz1]; omega
   have hr2 := run_append_room (P := Tryz.prog) w 69 69 74 i0 hu hi g rs.length cap cur hg ⟨vb, 0, none⟩ 1 1 (cellsO [r]) (by rw [hz1]; exact hnl) hnews hone hroom hfit
   rw [hr] at hr2
   injection hr2 with e1 e2
   subst e1
   exact Or.inl rfl
  ·
   have holds : ∀ j u, (cellsO rs)[j]? = some u → w.cell? ((⟨g, 0, none⟩ : Addr).add j) = some u := World.ownsRow.cells hown (g := g) rfl
   have hr2 := run_append_grow (P := Tryz.prog) w 69 69 74 i0 _ hu hi hz0 ⟨g, 0, none⟩ rs.length cap (cellsO rs) (by rw [hz1]; exact hown.1) holds ⟨vb, 0, none⟩ 1 1 (cellsO [r]) (by rw [hz1]; exact hnl) hnews (by omega) (by omega) (growslice_fits (by omega) (by rw [hz2]; omega))
   rw [hr] at hr2
   injection hr2 with e1 e2
   subst e1
   exact Or.inr fun k hk => by
    have : k = w.heap.size := by simpa [Value.ownBlock] using hk.symm
    omega
theorem wpList_appendO (w : World) {ops : Array Oper} {rest : List Oper} {o : Oper} {a : Act} {Q : Exit → Act → World → Prop} (hgd : o.guard = none) (s x : Operand)
  (ho : o.op = .call { callee := .builtin .append, args := #[s, x], argTypes := #[69, 69] }) (hty : o.type = 69) (base : Nat) (v : Value) (rs : List SRec) (r : SRec) (hs : a.eval s = v) (hown : OwnO w base v rs)
  (vb : Nat) (hx : a.eval x = .slice (some ⟨vb, 0, none⟩) 1 1) (hv0 : w.cell? ⟨vb, 0, none⟩ = some r.lab) (hv1 : w.cell? ⟨vb, 1, none⟩ = some (.pointer (some ⟨r.ring, 0, none⟩))) (hr1 : r.lab.oneCell' = true) (hl : rs.length ≤ 1000) (hbase : base ≤ w.heap.size)
  (h : ∀ v' w', OwnO w' base v' (rs ++ [r]) → w.grownBy w' v.ownBlock → (v'.ownBlock = v.ownBlock ∨ ∀ k, v'.ownBlock = some k → w.heap.size ≤ k) → wpList Tryz.prog ops Q rest (a.put o.dst v') w') : wpList Tryz.prog ops Q (o :: rest) a w := by
 refine wpList_plain hgd fun K hK => ?_
 obtain ⟨v', w', hr, h1, h2, h3⟩ := appendO_where w base v rs r hown vb hv0 hv1 hr1 hl hbase
 unfold Oper.wp
 simp [execOp, ho, hty, resolve, invoke, builtin, hs, hx, hr, Result.andThen]
 exact hK _ _ (h v' w' h1 h2 h3)
/-- slices.Insert at the row's end. -/
theorem ins_end (base : Nat) (ao : Option Addr) (n cap : Nat) (rs : List SRec) (vb : Nat) (r : SRec) (w : World) (hn : n ≤ 100) (hp : OwnO w base (.slice ao n cap) rs) (hb : base ≤ w.heap.size)
  (hv0 : w.cell? ⟨vb, 0, none⟩ = some r.lab) (hv1 : w.cell? ⟨vb, 1, none⟩ = some (.pointer (some ⟨r.ring, 0, none⟩))) (hr1 : r.lab.oneCell' = true) :
  Calls Tryz.prog 36 #[.slice ao n cap, .int .i64 n, .slice (some ⟨vb, 0, none⟩) 1 1] w fun e w' => ∃ v', e = .returned v' ∧ OwnO w' base v' (rs ++ [r]) ∧ w.grownBy w' (Value.slice ao n cap).ownBlock ∧ (v'.ownBlock = (Value.slice ao n cap).ownBlock ∨ ∀ k, v'.ownBlock = some k → w.heap.size ≤ k) := by
 have hln : rs.length = n := hp.slice.1.symm
 cases ao
 all_goals
  go_enter Tryz.func36, Tryz.ntmps36
  go_wp2_with (at_builtin; go_must (refine wpList_appendO _ rfl _ _ rfl rfl base _ rs r rfl hp vb rfl hv0 hv1 hr1 (by omega) hb ?_))
  all_goals
   intro v' w1 ho hg hwh
   go_wp2
   go_ret
   exact ⟨_, rfl, ho, hg, hwh⟩
theorem sizeE (w : World) : (sizeOf (Tryz.prog.elem 69)).run Tryz.prog w = .ok 2 w := by kernel_rfl
theorem sliceE : Tryz.prog.underlying 69 = some (.slice (Tryz.prog.elem 69)) := by kernel_rfl
/-- s[k:] of a row. -/
theorem cut_lo (g n c : Nat) (k : Int) (j : Nat) (hj : k = j) (h : j ≤ n) (hc : j ≠ c) (w : World) : (Instr.sliceAt 69 (.slice (some ⟨g, 0, none⟩) n c) (some (.int .i64 k)) none none).run Tryz.prog w = .ok (.slice (some ⟨g, j * 2, none⟩) (n - j) (c - j)) w := by
 subst hj
 rw [run_sliceAt_slice w 69 _ _ _ _ sliceE, run_slice_l w 69 (some ⟨g, 0, none⟩) n c sliceE .i64 (j : Int) (by omega) (by omega), sizeE]
 simp only [sliced, Result.andThen, Int.toNat_natCast]
 rw [if_neg (fun e => hc e.symm)]
 simp [Addr.add]
 exact fun e => e.symm
/-- s[:k] of a row. -/
theorem cut_hi (g n c : Nat) (k : Int) (j : Nat) (hj : k = j) (h : j ≤ c) (w : World) : (Instr.sliceAt 69 (.slice (some ⟨g, 0, none⟩) n c) none (some (.int .i64 k)) none).run Tryz.prog w = .ok (.slice (some ⟨g, 0, none⟩) j c) w := by
 subst hj
 rw [run_sliceAt_slice w 69 _ _ _ _ sliceE, run_slice_h w 69 (some ⟨g, 0, none⟩) n c sliceE .i64 (j : Int) (by omega) (by omega), sizeE]
 simp [sliced, Result.andThen, Addr.add]
/-- A series more among a row's. -/
theorem own_in {w' : World} {base g c n : Nat} {cur cur2 : Array Value} {rs : List SRec} {r : SRec} {i : Nat} (hl : rs.length = n) (hi : i ≤ n) (hb : base ≤ g) (hc : n + 1 ≤ c) (hm : c ≤ maxLen)
  (_hs : cur.size = c * 2) (_ht : cur.toList.take (n * 2) = cellsO rs) (hg : w'.heap[g]? = some (.cells cur2 74 (0, 0))) (hs2 : cur2.size = c * 2)
  (hc2 : cur2.toList.take ((n + 1) * 2) = cellsO (rs.take i) ++ twoO r ++ cellsO (rs.drop i)) : OwnO w' base (.slice (some ⟨g, 0, none⟩) (n + 1) c) (rs.take i ++ r :: rs.drop i) := by
 have e : (rs.take i ++ r :: rs.drop i).length = n + 1 := by rw [List.length_append, List.length_cons, List.length_take, List.length_drop]; omega
 unfold OwnO
 rw [e]
 refine ⟨by rw [cellsO_length, e], Or.inr ⟨g, c, cur2, rfl, hb, hg, hc, hm, hs2, ?_⟩⟩
 rw [hc2]
 simp [cellsO]
end Go.Proofs.YtjgckfcocmhnhaaGreatDoor.Sr
namespace Go.Proofs.YtjgckfcocmhnhaaGreatDoor.Sr
open Go.RowKit Rn
/-- What two copies leave of a row: a gap made, and filled. -/
theorem shifted (w : World) (g n c i : Nat) (cur : Array Value) (rs : List SRec) (r : SRec) (hg : w.heap[g]? = some (.cells cur 74 (0, 0))) (hi : i < n) (hroom : n + 1 ≤ c) (hcs : cur.size = c * 2) (hln : rs.length = n) (ht : cur.toList.take (n * 2) = cellsO rs) :
  ∃ cur2 : Array Value, ((w.setCells g ((i + 1) * 2) (cellsO (rs.drop i))).setCells g (i * 2) (twoO r)).heap[g]? = some (.cells cur2 74 (0, 0)) ∧ cur2.size = c * 2 ∧ cur2.toList.take ((n + 1) * 2) = cellsO (rs.take i) ++ twoO r ++ cellsO (rs.drop i) := by
 have hdl : (cellsO (rs.drop i)).length = (n - i) * 2 := by rw [cellsO_length, List.length_drop, hln]
 have hal : cur.toList.length = c * 2 := by rw [Array.length_toList, hcs]
 obtain ⟨cur1, h1, h2, h3⟩ := heap_setCells g (cellsO (rs.drop i)) ((i + 1) * 2) w cur 74 (0, 0) hg (by rw [hdl, hcs]; omega)
 obtain ⟨cur2, k1, k2, k3⟩ := heap_setCells g (twoO r) (i * 2) _ cur1 74 (0, 0) h1 (by rw [h2, hcs]; show i * 2 + 2 ≤ _; omega)
 refine ⟨cur2, k1, by rw [k2, h2, hcs], ?_⟩
 have e0 : cur.toList.take (i * 2) = cellsO (rs.take i) := by
  rw [← cellsO_take, ← ht, List.take_take, Nat.min_eq_left (by omega)]
 have e1 : cur1.toList.take (i * 2) = cellsO (rs.take i) := by
  rw [h3, List.append_assoc, List.take_append_of_le_length (by rw [List.length_take]; omega), List.take_take, Nat.min_eq_left (by omega), e0]
 have e2 : cur1.toList.drop (i * 2 + 2) = cellsO (rs.drop i) ++ cur.toList.drop ((i + 1) * 2 + (cellsO (rs.drop i)).length) := by
  rw [h3, List.append_assoc, List.drop_append_of_le_length (by rw [List.length_take]; omega), List.drop_of_length_le (by rw [List.length_take]; omega), List.nil_append]
 rw [k3, e1, show i * 2 + (twoO r).length = i * 2 + 2 from rfl, e2, ← List.append_assoc]
 rw [List.take_append_of_le_length (by rw [List.length_append, List.length_append, hdl, cellsO_length, List.length_take]; show _ ≤ _ + 2 + _; omega)]
 exact List.take_of_length_le (by rw [List.length_append, List.length_append, hdl, cellsO_length, List.length_take]; show _ + 2 + _ ≤ _; omega)
theorem isSome_setCells (b : Nat) (vs : List Value) (o : Nat) (w : World) (h : ∀ j, j < vs.length → (w.cell? ⟨b, o + j, none⟩).isSome = true) (k : Nat) (hk : (w.cell? ⟨b, k, none⟩).isSome = true) : ((w.setCells b o vs).cell? ⟨b, k, none⟩).isSome = true := by
 by_cases hin : o ≤ k ∧ k < o + vs.length
 ·
  have := World.cell?_setCells_in b vs o w h (k - o) (by omega)
  rw [show o + (k - o) = k by omega] at this
  rw [this]; rfl
 ·
  rw [World.cell?_setCells_out b vs o w ⟨b, k, none⟩ (fun _ _ => by show k < o ∨ o + vs.length ≤ k; omega)]
  exact hk
theorem cell_of_cur {w : World} {g : Nat} {cur : Array Value} {e : TypeId} {fr : Nat × Nat} (hg : w.heap[g]? = some (.cells cur e fr)) {j : Nat} (hj : j < cur.size) : (w.cell? ⟨g, j, none⟩).isSome = true := by
 rw [cell_of_row _ _ _ _ _ _ hg, Array.getElem?_eq_getElem hj]
 rfl
theorem frozen_of_cur {w : World} {g : Nat} {cur : Array Value} {e : TypeId} (hg : w.heap[g]? = some (.cells cur e (0, 0))) (j : Nat) : w.frozen? ⟨g, j, none⟩ = false := by
 simp [World.frozen?, hg]
set_option maxHeartbeats 4000000 in
set_option maxRecDepth 100000 in
theorem ins_room (base : Nat) (g n c i : Nat) (rs : List SRec) (vb : Nat) (r : SRec) (w : World) (hn : n ≤ 100) (hi : i < n) (hroom : n + 1 ≤ c) (hp : OwnO w base (.slice (some ⟨g, 0, none⟩) n c) rs)
  (hv0 : w.cell? ⟨vb, 0, none⟩ = some r.lab) (hv1 : w.cell? ⟨vb, 1, none⟩ = some (.pointer (some ⟨r.ring, 0, none⟩))) (hr1 : r.lab.oneCell' = true) (h1c : ∀ x ∈ rs, x.lab.oneCell' = true)
  (hvb : vb ≠ g) (tA : TypeId) (kA : Nat) (hsa : w.shape? vb = some (tA, kA)) (hfa : w.frozen? ⟨vb, 0, none⟩ = false) (hfe : w.frozen? ⟨vb, kA, none⟩ = false) :
  Calls Tryz.prog 36 #[.slice (some ⟨g, 0, none⟩) n c, .int .i64 i, .slice (some ⟨vb, 0, none⟩) 1 1] w fun e w' => e = .returned (.slice (some ⟨g, 0, none⟩) (n + 1) c) ∧ OwnO w' base (.slice (some ⟨g, 0, none⟩) (n + 1) c) (rs.take i ++ r :: rs.drop i) ∧ w.grownBy w' (some g) := by
 have hln : rs.length = n := hp.slice.1.symm
 obtain ⟨hpl, ⟨hpe, _⟩ | ⟨g', c', cur, he, hbg, hg, hnc, hcm, hcs, htake⟩⟩ := hp
 ·
  cases hpe
 injection he with e1 e2 e3
 injection e1 with e1
 injection e1 with e1
 subst e1 e3
 clear e2
 rw [hln] at htake
 have hc63 : c ≤ 9223372036854775807 := by unfold maxLen at hcm; omega
 have hsb : w.shape? g = some (74, c * 2) := by simp [World.shape?, hg, hcs]
 have hov : ∀ W lb cb, W.shape? vb = some (tA, kA) → W.shape? g = some (74, c * 2) → W.frozen? ⟨vb, 0, none⟩ = false → W.frozen? ⟨vb, kA, none⟩ = false → (callFunc 71 #[.slice (some ⟨vb, 0, none⟩) 1 1, .slice (some ⟨g, (i + 1) * 2, none⟩) lb cb]).run Tryz.prog W = .ok (.value (.bool false)) W := fun W lb cb a1 a2 a3 a4 => by
  rw [run_callFunc_extern Tryz.func71 (by kernel_rfl) (by kernel_rfl) (by kernel_rfl) (e := Extern.SlicesOverlaps.overlaps #[69, 69] #[4]) (by kernel_rfl),
   Lib.run_overlaps_apart W 69 4 74 Tryz.underlying69 2 Tryz.sizeOf74 ⟨vb, 0, none⟩ ⟨g, (i + 1) * 2, none⟩ 1 1 lb cb hvb tA 74 kA (c * 2) a1 a2 (by omega) a3 a4]
  rfl
 have hin : i ≤ n := by omega
 have hz2 : ¬ ((i : Int) = (n : Int)) := by omega
 have hw1 : IntKind.i64.wrap ((i : Int) + 1) = (i : Int) + 1 := by rw [IntKind.wrap_i64]; omega
 have hw2 : IntKind.i64.wrap ((n : Int) + 1) = (n : Int) + 1 := by rw [IntKind.wrap_i64]; omega
 have hb1 : (0 : Int) ≤ (i : Int) + 1 := by omega
 have htn : ((i : Int) + 1).toNat = i + 1 := by omega
 have hb2 : ¬ (c = i + 1) := by omega
 have hb3 : (i : Int) ≤ (n : Int) + 1 := by omega
 have hb4 : ¬ (c = i) := by omega
 have hb5 : ¬ ((c : Int) < (n : Int) + 1) := by omega
 have s1 := fun W => cut_lo g n c i i rfl hin (by omega) W
 have s2 := fun W => cut_hi g n c ((n : Int) + 1) (n + 1) (by omega) hroom W
 have s3 := fun W => cut_lo g (n + 1) c ((i : Int) + 1) (i + 1) (by omega) (by omega) (by omega) W
 have s4 := fun W => cut_lo g (n + 1) c i i rfl (by omega) (by omega) W
 have hdl : (cellsO (rs.drop i)).length = (n - i) * 2 := by rw [cellsO_length, List.length_drop, hln]
 have hcell : ∀ j, j < c * 2 → (w.cell? ⟨g, j, none⟩).isSome = true := fun j hj => cell_of_cur hg (by rw [hcs]; exact hj)
 have hfz : ∀ j, w.frozen? ⟨g, j, none⟩ = false := frozen_of_cur hg
 have hsrc : ∀ j v, (cellsO (rs.drop i))[j]? = some v → w.cell? ⟨g, i * 2 + j, none⟩ = some v := fun j v hj => by
  rw [← cellsO_drop, List.getElem?_drop, ← htake] at hj
  rw [cell_of_row _ _ _ _ _ _ hg]
  have hlt : i * 2 + j < n * 2 := by
   rcases Nat.lt_or_ge (i * 2 + j) (n * 2) with h | h
   ·
    exact h
   ·
    rw [List.getElem?_eq_none (by rw [List.length_take]; omega)] at hj; cases hj
  rw [List.getElem?_take_of_lt hlt] at hj
  rw [← hj]
  exact (Array.getElem?_toList).symm
 have hcp1 : Hid (∀ W, (∀ x, W.cell? x = w.cell? x) → (∀ x, W.frozen? x = w.frozen? x) → (Builtin.copy_ #[69, 69] 3 #[.slice (some ⟨g, (i + 1) * 2, none⟩) (n + 1 - (i + 1)) (c - (i + 1)), .slice (some ⟨g, i * 2, none⟩) (n + 1 - i) (c - i)]).run Tryz.prog W = .ok (.int .i64 ((n - i : Nat) : Int)) (W.setCells g ((i + 1) * 2) (cellsO (rs.drop i)))) := fun W hW1 hW2 =>
  run_copy2 W g ((i + 1) * 2) (n + 1 - (i + 1)) (c - (i + 1)) ⟨g, i * 2, none⟩ (n + 1 - i) (c - i) (n - i) _ (by simp only [Nat.min_def]; split <;> omega) hdl (fun j v hj => by rw [Addr.add_lit, hW1]; exact hsrc j v hj)
   (fun j hj => by rw [hW1]; exact hcell _ (by omega)) (fun j hj => by rw [hW2]; exact hfz _) (cellsO_one (fun x hx => h1c x (List.mem_of_mem_drop hx)))
 have hcp2 : Hid ((Builtin.copy_ #[69, 69] 3 #[.slice (some ⟨g, i * 2, none⟩) (n + 1 - i) (c - i), .slice (some ⟨vb, 0, none⟩) 1 1]).run Tryz.prog (w.drew.setCells g ((i + 1) * 2) (cellsO (rs.drop i))) = .ok (.int .i64 ((1 : Nat) : Int)) ((w.drew.setCells g ((i + 1) * 2) (cellsO (rs.drop i))).setCells g (i * 2) (twoO r))) :=
  run_copy2 _ g (i * 2) (n + 1 - i) (c - i) ⟨vb, 0, none⟩ 1 1 1 (twoO r) (by simp only [Nat.min_def]; split <;> omega) rfl
   (fun j v hj => by
    rw [Addr.add_lit, World.cell?_setCells_out g _ _ _ _ (fun h _ => absurd h hvb), Nat.zero_add]
    match j, hj with
    | 0, hj => exact hv0.trans hj
    | 1, hj => exact hv1.trans hj
    | j + 2, hj => simp [twoO] at hj)
   (fun j hj => isSome_setCells g _ _ w.drew (fun t ht => hcell _ (by rw [hdl] at ht; omega)) _ (hcell _ (by omega)))
   (fun j hj => by rw [World.frozen?_setCells]; exact hfz _)
   (by intro u hu; simp only [twoO, List.mem_cons, List.not_mem_nil, or_false] at hu; rcases hu with rfl | rfl; exact hr1; rfl)
 have hsh := shifted w.drew g n c i cur rs r hg hi hroom hcs hln htake
 have HW : Hid _ := hsh
 clear hsh
 have HT : Hid _ := htake
 have mixed : Tryz.prog.follows Departure.mixedOrders = true := by kernel_rfl
 have HC : Hid _ := hcs
 have HL : Hid _ := hln
 have HG : Hid _ := hg
 clear htake hcs hln hpl hg hdl hcell hfz hsrc
 go_enter Tryz.func36, Tryz.ntmps36
 go_wp2
 go_region_law_o (refine step_copyO rfl _ _ rfl rfl _ _ (by simp [Act.eval, Act.put]) (by simp [Act.eval, Act.put]) (hcp1.out _ (fun _ => rfl) (fun _ => rfl)) ?_)
 go_wp2_with (refine wpList_copyO _ rfl _ _ rfl rfl _ _ rfl rfl hcp2.out ?_)
 go_ret
 obtain ⟨cur2, k1, k2, k3⟩ := HW.out
 refine ⟨rfl, own_in HL.out (by omega) hbg hroom hcm HC.out HT.out k1 k2 k3, ?_⟩
 exact (grown_below (Below.refl _ w).drew _).trans ((grown_setCells g _ _ _).trans (grown_setCells g _ _ _))
end Go.Proofs.YtjgckfcocmhnhaaGreatDoor.Sr
namespace Go.Proofs.YtjgckfcocmhnhaaGreatDoor.Sr
open Go.RowKit Rn
/-- What two copies leave of a new row. -/
theorem shifted2 (w : World) (g n c i : Nat) (cur : Array Value) (rs : List SRec) (r : SRec) (hg : w.heap[g]? = some (.cells cur 74 (0, 0))) (hi : i < n) (hroom : n + 1 ≤ c) (hcs : cur.size = c * 2) (hln : rs.length = n) (ht : cur.toList.take (i * 2) = cellsO (rs.take i)) :
  ∃ cur2 : Array Value, ((w.setCells g (i * 2) (twoO r)).drew.setCells g ((i + 1) * 2) (cellsO (rs.drop i))).heap[g]? = some (.cells cur2 74 (0, 0)) ∧ cur2.size = c * 2 ∧ cur2.toList.take ((n + 1) * 2) = cellsO (rs.take i) ++ twoO r ++ cellsO (rs.drop i) := by
 have hdl : (cellsO (rs.drop i)).length = (n - i) * 2 := by rw [cellsO_length, List.length_drop, hln]
 have hal : cur.toList.length = c * 2 := by rw [Array.length_toList, hcs]
 obtain ⟨cur1, h1, h2, h3⟩ := heap_setCells g (twoO r) (i * 2) w cur 74 (0, 0) hg (by rw [hcs]; show i * 2 + 2 ≤ _; omega)
 have h1' : (w.setCells g (i * 2) (twoO r)).drew.heap[g]? = some (.cells cur1 74 (0, 0)) := h1
 obtain ⟨cur2, k1, k2, k3⟩ := heap_setCells g (cellsO (rs.drop i)) ((i + 1) * 2) _ cur1 74 (0, 0) h1' (by rw [h2, hcs, hdl]; omega)
 refine ⟨cur2, k1, by rw [k2, h2, hcs], ?_⟩
 have e1 : cur1.toList.take ((i + 1) * 2) = cellsO (rs.take i) ++ twoO r := by
  rw [h3, ht]
  have el : (cellsO (rs.take i) ++ twoO r).length = (i + 1) * 2 := by rw [List.length_append, cellsO_length, List.length_take]; show _ + 2 = _; omega
  rw [← el, List.take_append_of_le_length (Nat.le_refl _), List.take_length]
 rw [k3, e1]
 rw [List.take_append_of_le_length (by rw [List.length_append, List.length_append, hdl, cellsO_length, List.length_take]; show _ ≤ _ + 2 + _; omega)]
 exact List.take_of_length_le (by rw [List.length_append, List.length_append, hdl, cellsO_length, List.length_take]; show _ + 2 + _ ≤ _; omega)
theorem size_zeros (z : Value) (hz : z.cells.size = 2) (k : Nat) : (Builtin.zeroCells z.cells k).size = k * 2 := by
 simp [Builtin.zeroCells, hz]
set_option maxHeartbeats 4000000 in
set_option maxRecDepth 100000 in
theorem ins_grow (base : Nat) (g n c i : Nat) (rs : List SRec) (vb : Nat) (r : SRec) (w : World) (hn : n ≤ 100) (hi : i < n) (hroom : c < n + 1) (hb : base ≤ w.heap.size) (hp : OwnO w base (.slice (some ⟨g, 0, none⟩) n c) rs)
  (hv0 : w.cell? ⟨vb, 0, none⟩ = some r.lab) (hv1 : w.cell? ⟨vb, 1, none⟩ = some (.pointer (some ⟨r.ring, 0, none⟩))) (hr1 : r.lab.oneCell' = true) (h1c : ∀ x ∈ rs, x.lab.oneCell' = true) :
  Calls Tryz.prog 36 #[.slice (some ⟨g, 0, none⟩) n c, .int .i64 i, .slice (some ⟨vb, 0, none⟩) 1 1] w fun e w' => ∃ G, e = .returned (.slice (some ⟨w.heap.size, 0, none⟩) (n + 1) G) ∧ OwnO w' base (.slice (some ⟨w.heap.size, 0, none⟩) (n + 1) G) (rs.take i ++ r :: rs.drop i) ∧ Below w.heap.size w w' := by
 obtain ⟨i0, hi0, hz0, hzs, hzb⟩ := infoO_parts
 have hln : rs.length = n := hp.slice.1.symm
 have hcells : ∀ j u, (cellsO rs)[j]? = some u → w.cell? ((⟨g, 0, none⟩ : Addr).add j) = some u := World.ownsRow.cells hp (g := g) rfl
 have hgl : g < w.heap.size := (row_ty hp rfl).lt
 have hvl : vb < w.heap.size := World.block_lt_of_cell? _ _ hv0
 obtain ⟨hpl, ⟨hpe, _⟩ | ⟨g', c', cur, he, hbg, hg, hnc, hcm, hcs, htake⟩⟩ := hp
 ·
  cases hpe
 injection he with e1 e2 e3
 injection e1 with e1
 injection e1 with e1
 subst e1 e3
 clear e2
 have hnc' : n ≤ c := by rw [hln] at hnc; exact hnc
 have hold : (Builtin.firstCells i0.size i (.slice (some ⟨g, 0, none⟩) i c)).run Tryz.prog w.drew = .ok (cellsO (rs.take i)).toArray w.drew := by
  rw [hzs]
  refine run_firstCells_some w.drew 2 i ⟨g, 0, none⟩ i c (cellsO (rs.take i)) (by rw [cellsO_length, List.length_take]; omega) (fun j v hj => ?_)
  rw [← cellsO_take, List.getElem?_take] at hj
  split at hj
  ·
   exact hcells j v hj
  ·
   cases hj
 have hik : i + (n + 1 - i) = n + 1 := by omega
 have hkk : (n : Int) + 1 - (i : Int) = ((n + 1 - i : Nat) : Int) := by omega
 obtain ⟨G, hG⟩ : ∃ G, G = grownCap w (n + 1) c 74 := ⟨_, rfl⟩
 obtain ⟨ROW, hROW⟩ : ∃ ROW : Array Value, ROW = (cellsO (rs.take i)).toArray ++ Builtin.zeroCells (Value.agg #[.slice none 0 0, .pointer none]).cells (n + 1 - i) ++ Builtin.zeroCells (Value.agg #[.slice none 0 0, .pointer none]).cells (G - (n + 1)) := ⟨_, rfl⟩
 have hrz : (Builtin.append_ #[69, 3] 69 #[.slice (some ⟨g, 0, none⟩) i c, .int .i64 ((n : Int) + 1 - (i : Int))]).run Tryz.prog w = .ok (.slice (some ⟨w.heap.size, 0, none⟩) (n + 1) G) (w.drew.alloc (.cells ROW 74)) := by
  have h := Lib.run_append_grow_zeros w 69 3 69 74 i0 _ .i64 .i64 Tryz.underlying69 Tryz.underlying3 hi0 hz0 (some ⟨g, 0, none⟩) i c (cellsO (rs.take i)) hold (n + 1 - i) (by omega) (by omega) (by omega) (by omega) (by rw [hzb]; omega) (by rw [hzb, hik]; exact growslice_fits hroom (by omega))
  rw [hik, ← hG, ← hROW] at h
  rw [hkk]
  exact h
 have hGn : n + 1 ≤ G := by rw [hG]; exact grownCap_ge w _ _ _
 have hGm : G ≤ maxLen := by rw [hG]; exact grownCap_le_maxLen w (n + 1) c 74 (by unfold maxLen; omega)
 have hRs : ROW.size = G * 2 := by
  rw [hROW, Array.size_append, Array.size_append, size_zeros _ zeroO, size_zeros _ zeroO, List.size_toArray, cellsO_length, List.length_take]
  omega
 have hRt : ROW.toList.take (i * 2) = cellsO (rs.take i) := by
  have el : (cellsO (rs.take i)).length = i * 2 := by rw [cellsO_length, List.length_take]; omega
  rw [hROW, Array.toList_append, Array.toList_append, List.append_assoc, ← el, List.take_append_of_le_length (Nat.le_refl _), List.take_length]
 have hdl : (cellsO (rs.drop i)).length = (n - i) * 2 := by rw [cellsO_length, List.length_drop, hln]
 obtain ⟨W1, hW1⟩ : ∃ W1, W1 = w.drew.alloc (.cells ROW 74) := ⟨_, rfl⟩
 have hH : W1.heap[w.heap.size]? = some (.cells ROW 74 (0, 0)) := by rw [hW1]; exact heap_alloc_new w.drew _
 have hbw : Below w.heap.size w W1 := by rw [hW1]; exact bal (Below.refl _ w).drew _
 have hN : ∀ j, j < G * 2 → (W1.cell? ⟨w.heap.size, j, none⟩).isSome = true := fun j hj => cell_of_cur hH (by rw [hRs]; exact hj)
 have hNf : ∀ j, W1.frozen? ⟨w.heap.size, j, none⟩ = false := frozen_of_cur hH
 have hvne : vb ≠ w.heap.size := by omega
 have hgne : g ≠ w.heap.size := by omega
 have hA : Hid ((Builtin.copy_ #[69, 69] 3 #[.slice (some ⟨w.heap.size, i * 2, none⟩) (n + 1 - i) (G - i), .slice (some ⟨vb, 0, none⟩) 1 1]).run Tryz.prog W1 = .ok (.int .i64 ((1 : Nat) : Int)) (W1.setCells w.heap.size (i * 2) (twoO r))) :=
  run_copy2 _ w.heap.size (i * 2) (n + 1 - i) (G - i) ⟨vb, 0, none⟩ 1 1 1 (twoO r) (by simp only [Nat.min_def]; split <;> omega) rfl
   (fun j v hj => by
    rw [Addr.add_lit, Nat.zero_add]
    match j, hj with
    | 0, hj => exact (hbw.cell (p := ⟨vb, 0, none⟩) hvl).trans (hv0.trans hj)
    | 1, hj => exact (hbw.cell (p := ⟨vb, 1, none⟩) hvl).trans (hv1.trans hj)
    | j + 2, hj => simp [twoO] at hj)
   (fun j hj => hN _ (by omega)) (fun j hj => hNf _)
   (by intro u hu; simp only [twoO, List.mem_cons, List.not_mem_nil, or_false] at hu; rcases hu with rfl | rfl; exact hr1; rfl)
 have hB : Hid ((Builtin.copy_ #[69, 69] 3 #[.slice (some ⟨w.heap.size, (i + 1) * 2, none⟩) (n + 1 - (i + 1)) (G - (i + 1)), .slice (some ⟨g, i * 2, none⟩) (n - i) (c - i)]).run Tryz.prog (W1.setCells w.heap.size (i * 2) (twoO r)).drew = .ok (.int .i64 ((n - i : Nat) : Int)) ((W1.setCells w.heap.size (i * 2) (twoO r)).drew.setCells w.heap.size ((i + 1) * 2) (cellsO (rs.drop i)))) :=
  run_copy2 _ w.heap.size ((i + 1) * 2) (n + 1 - (i + 1)) (G - (i + 1)) ⟨g, i * 2, none⟩ (n - i) (c - i) (n - i) _ (by simp only [Nat.min_def]; split <;> omega) hdl
   (fun j v hj => by
    rw [Addr.add_lit]
    refine (World.cell?_setCells_out w.heap.size (twoO r) (i * 2) W1 ⟨g, i * 2 + j, none⟩ (fun h _ => absurd h hgne)).trans ?_
    rw [hbw.cell (p := ⟨g, i * 2 + j, none⟩) hgl]
    rw [← cellsO_drop, List.getElem?_drop] at hj
    have := hcells _ _ hj
    rw [Addr.add_lit, Nat.zero_add] at this
    exact this)
   (fun j hj => isSome_setCells _ _ _ W1 (fun t ht => hN _ (by have : t < 2 := ht; omega)) _ (hN _ (by omega)))
   (fun j hj => (World.frozen?_setCells _ _ _ _ _).trans (hNf _))
   (cellsO_one (fun x hx => h1c x (List.mem_of_mem_drop hx)))
 obtain ⟨cur2, k1, k2, k3⟩ := shifted2 W1 w.heap.size n G i ROW rs r hH hi hGn hRs hln hRt
 have hOwn : Hid (OwnO ((W1.setCells w.heap.size (i * 2) (twoO r)).drew.setCells w.heap.size ((i + 1) * 2) (cellsO (rs.drop i))) base (.slice (some ⟨w.heap.size, 0, none⟩) (n + 1) G) (rs.take i ++ r :: rs.drop i)) := by
  have e : (rs.take i ++ r :: rs.drop i).length = n + 1 := by rw [List.length_append, List.length_cons, List.length_take, List.length_drop]; omega
  show OwnO _ _ _ _
  unfold OwnO
  rw [e]
  refine ⟨by rw [cellsO_length, e], Or.inr ⟨_, G, cur2, rfl, hb, k1, hGn, hGm, k2, ?_⟩⟩
  rw [k3]
  simp [cellsO]
 have hBel : Hid (Below w.heap.size w ((W1.setCells w.heap.size (i * 2) (twoO r)).drew.setCells w.heap.size ((i + 1) * 2) (cellsO (rs.drop i)))) :=
  (hbw.grown (grown_setCells w.heap.size (twoO r) (i * 2) W1) hbw.size (fun k hk => by cases hk; exact Nat.le_refl _)).drew.grown (grown_setCells w.heap.size _ _ _) (by rw [show (W1.setCells w.heap.size (i * 2) (twoO r)).drew.heap.size = (W1.setCells w.heap.size (i * 2) (twoO r)).heap.size from rfl]; exact Nat.le_trans hbw.size (grown_setCells w.heap.size (twoO r) (i * 2) W1).size) (fun k hk => by cases hk; exact Nat.le_refl _)
 rw [← hW1] at hrz
 have hGM : G ≤ 9223372036854775807 := by unfold maxLen at hGm; omega
 have hin : i ≤ n := by omega
 have hz2 : ¬ ((i : Int) = (n : Int)) := by omega
 have hw1 : IntKind.i64.wrap ((i : Int) + 1) = (i : Int) + 1 := by rw [IntKind.wrap_i64]; omega
 have hw2 : IntKind.i64.wrap ((n : Int) + 1) = (n : Int) + 1 := by rw [IntKind.wrap_i64]; omega
 have hb5 : (c : Int) < (n : Int) + 1 := by omega
 have s1 := fun W => cut_lo g n c i i rfl hin (by omega) W
 have s2 := fun W => cut_hi g n c (i : Int) i rfl (by omega) W
 have s3 := fun W => cut_lo w.heap.size (n + 1) G i i rfl (by omega) (by omega) W
 have s4 := fun W => cut_lo w.heap.size (n + 1) G ((i : Int) + 1) (i + 1) (by omega) (by omega) (by omega) W
 have mixed : Tryz.prog.follows Departure.mixedOrders = true := by kernel_rfl
 have HRZ : Hid _ := hrz
 have hD : Hid (W1.setCells w.heap.size (i * 2) (twoO r) = W1.setCells w.heap.size (i * 2) (twoO r)) := rfl
 clear hold hik hkk hG hROW hRs hRt hcells hpl hg hcs htake hnc hcm hbg hln hGm hN hNf hH hbw hW1 k1 k2 k3 hdl hrz hi0 hz0 hzs hzb hD hvl hgl hnc'
 go_enter Tryz.func36, Tryz.ntmps36
 go_wp2_with (first
  | (at_builtin; refine Lib.wpList_append_run _ rfl _ _ _ _ rfl _ _ rfl rfl _ _ HRZ.out ?_)
  | (refine wpList_copyO _ rfl _ _ rfl rfl _ _ rfl rfl hA.out ?_))
 go_region_law_o (refine step_copyO rfl _ _ rfl rfl _ _ (by simp [Act.eval, Act.put]) (by simp [Act.eval, Act.put]) hB.out ?_)
 go_wp2
 go_ret
 exact ⟨G, rfl, hOwn.out, hBel.out⟩
/-- slices.Insert: one series more, wherever. -/
theorem ins_any (base : Nat) (ao : Option Addr) (n cap i : Nat) (rs : List SRec) (vb : Nat) (r : SRec) (w : World) (hn : n ≤ 100) (hi : i ≤ n) (hb : base ≤ w.heap.size) (hp : OwnO w base (.slice ao n cap) rs)
  (hv0 : w.cell? ⟨vb, 0, none⟩ = some r.lab) (hv1 : w.cell? ⟨vb, 1, none⟩ = some (.pointer (some ⟨r.ring, 0, none⟩))) (hr1 : r.lab.oneCell' = true) (h1c : ∀ x ∈ rs, x.lab.oneCell' = true)
  (hvb : ∀ g, (Value.slice ao n cap).ownBlock = some g → vb ≠ g) (tA : TypeId) (kA : Nat) (hsa : w.shape? vb = some (tA, kA)) (hfa : w.frozen? ⟨vb, 0, none⟩ = false) (hfe : w.frozen? ⟨vb, kA, none⟩ = false) :
  Calls Tryz.prog 36 #[.slice ao n cap, .int .i64 i, .slice (some ⟨vb, 0, none⟩) 1 1] w fun e w' => ∃ v', e = .returned v' ∧ OwnO w' base v' (rs.take i ++ r :: rs.drop i) ∧ w.grownBy w' (Value.slice ao n cap).ownBlock ∧ (v'.ownBlock = (Value.slice ao n cap).ownBlock ∨ ∀ k, v'.ownBlock = some k → w.heap.size ≤ k) := by
 have hln : rs.length = n := hp.slice.1.symm
 rcases Nat.lt_or_ge i n with hlt | hge
 ·
  obtain ⟨g, e, -⟩ := hp.slice.2.2 (by omega)
  subst e
  by_cases hroom : n + 1 ≤ cap
  ·
   exact (ins_room base g n cap i rs vb r w hn hlt hroom hp hv0 hv1 hr1 h1c (hvb g rfl) tA kA hsa hfa hfe).mono fun _ _ ⟨h1, h2, h3⟩ => ⟨_, h1, h2, h3, Or.inl rfl⟩
  ·
   refine (ins_grow base g n cap i rs vb r w hn hlt (by omega) hb hp hv0 hv1 hr1 h1c).mono ?_
   rintro e w' ⟨G, h1, h2, h3⟩
   exact ⟨_, h1, h2, grown_below h3 _, Or.inr fun k hk => by cases hk; exact Nat.le_refl _⟩
 ·
  obtain rfl : i = n := by omega
  have h := ins_end base ao i cap rs vb r w hn hp hb hv0 hv1 hr1
  rw [List.take_of_length_le (by omega), List.drop_of_length_le (by omega)]
  exact h
end Go.Proofs.YtjgckfcocmhnhaaGreatDoor.Sr
