/- Label sets by their reference, read: the texts that the others lean on, in one. -/
import Derived.Test.YtcbjhfnlhpallaaGreatDoorBaseA
import Derived.Lib.AppendZerosOnto
import Derived.Deep.Upon
import Derived.Laws.CopyOwn
import Derived.SliceStrings
import Derived.Test.YtcbjhfnlhpallaaGreatDoorBaseR
/- slices.Grow of nil, slices.Concat of two rows of pairs. -/
namespace Go.Proofs.YtcbjhfnlhpallaaGreatDoor
open Go.RowKit

theorem below_drew {w : World} : Below w.heap.size w w.drew := (Below.refl _ _).drew
theorem src_none (w : World) (c : Nat) : Src Tryz.prog 2 30 (.slice none 0 c) 0 [] w := by
  refine ⟨Or.inl ⟨_, Tryz.underlying30⟩, fun w' => ?_, ?_, ?_, rfl, fun u hu => by cases hu⟩
  · simp [Builtin.lenOf]
  · exact run_firstCells_none w 2 0 0 c
  · exact run_firstCells_none w.drew 2 0 0 c
theorem append_none (w : World) (c : Nat) (ao : Option Addr) (N cap : Nat) (hle : N ≤ cap) (ty : TypeId) : (Builtin.append_ #[30, 30] ty #[.slice ao N cap, .slice none 0 c]).run Tryz.prog w = .ok (.slice ao N cap) w := by
  obtain ⟨i0, hi, hz0, hz1, hz2⟩ := info_parts35
  exact run_append_nothing w 30 30 ty 58 i0 Tryz.underlying30 hi ao N cap hle _ (by rw [hz1]; exact src_none w c)
theorem Ps.cells {w : World} {ad : Addr} {n : Nat} {l : List Pr} (h : Ps w (some ad) n l) : ∀ j u, (cellsP l)[j]? = some u → w.cell? (ad.add j) = some u := by
  intro j u hu
  have hlen := h.1
  have hj : j < l.length * 2 := by
    by_cases hj : j < l.length * 2
    · exact hj
    · rw [List.getElem?_eq_none (by rw [cellsP_length]; omega)] at hu; cases hu
  obtain ⟨b, off, e, h4⟩ := h.2 (by omega)
  cases e
  rw [Addr.add_lit]
  have hjd : j / 2 < l.length := by omega
  obtain ⟨g1, g2⟩ := cellsP_get hjd
  obtain ⟨k1, k2⟩ := h4 (j / 2) (by omega)
  rcases Nat.mod_two_eq_zero_or_one j with hm | hm
  · have e : j / 2 * 2 = j := by omega
    rw [e] at g1 k1
    rw [k1, ← hu, g1]
  · have e : j / 2 * 2 + 1 = j := by omega
    rw [Nat.add_assoc, e] at k2
    rw [e] at g2
    rw [k2, ← hu, g2]

theorem wp_app {w w0 : World} {ops : Array Oper} {rest : List Oper} {o : Oper} {a : Act} {Q : Exit → Act → World → Prop} (hgd : o.guard = none) (s x : Operand)
    (ho : o.op = .call { callee := .builtin .append, args := #[s, x], argTypes := #[30, 30] }) (base : Nat) (v : Value) (acc l : List Pr) (xa : Option Addr) (n c : Nat) (hs : a.eval s = v) (hx : a.eval x = .slice xa n c)
    (hown : Own w base v acc) (hps : Ps w xa n l) (hb : Below base w0 w) (hb0 : base ≤ w0.heap.size) (hN : acc.length + n ≤ 1000000)
    (h : ∀ v' w', Own w' base v' (acc ++ l) → Below base w0 w' → wpList Tryz.prog ops Q rest (a.put o.dst v') w') : wpList Tryz.prog ops Q (o :: rest) a w := by
  obtain ⟨i0, hi, hz0, hz1, hz2⟩ := info_parts35
  cases xa with
  | none =>
    have h0 : n = 0 := by
      by_cases h : 0 < n
      · obtain ⟨_, _, e, _⟩ := hps.2 h; cases e
      · omega
    subst h0
    obtain rfl : l = [] := List.length_eq_zero_iff.1 hps.1
    obtain ⟨ao, cap, rfl, _, hle⟩ := hown.slice
    refine Lib.wpList_append_run w hgd s x 30 30 ho _ _ hs hx _ _ (append_none w c ao _ cap hle _) (h _ _ ?_ hb)
    rw [List.append_nil]
    exact hown
  | some ad =>
    refine wpList_append_own w hgd s x 30 ho base 58 i0 (.agg #[tx [], tx []]) 2 32 Tryz.underlying30 hi hz0 hz1 hz2 zero35 (by decide) v acc.length (cellsP acc) hs hown ad n c (cellsP l) hx (by rw [cellsP_length, hps.1]) hps.cells (cellsP_one _) (by unfold maxLen; omega) (by omega) (Nat.le_trans hb0 hb.size) ?_
    intro v' w' h2 h3 _
    refine h v' w' ?_ (hb.grown h3 (Nat.le_trans hb0 hb.size) (fun k hk => (World.ownsRow.lt hown k hk).1))
    unfold Own
    rw [cellsP_append, List.length_append, hps.1]
    exact h2

end Go.Proofs.YtcbjhfnlhpallaaGreatDoor
/- copy within a row of pairs, a pair laid into it. -/
namespace Go.Proofs.YtcbjhfnlhpallaaGreatDoor
open Go.RowKit

theorem run_copy2 (w : World) (ty : TypeId) (g o dLen dCap : Nat) (a : Addr) (sLen sCap N : Nat) (cur : Array Value) (t : TypeId) (cs : List Value)
    (hg : w.heap[g]? = some (.cells cur t (0, 0))) (hN : N = Nat.min sLen dLen) (hn : cs.length = N * 2)
    (hsrc : ∀ j v, cs[j]? = some v → w.cell? (a.add j) = some v) (hfit : o + cs.length ≤ cur.size) (h1 : ∀ v ∈ cs, v.oneCell' = true) :
    (Builtin.copy_ #[30, 30] ty #[.slice (some ⟨g, o, none⟩) dLen dCap, .slice (some a) sLen sCap]).run Tryz.prog w =
      .ok (goInt N) (w.setRow g (cur.toList.take o ++ cs ++ cur.toList.drop (o + cs.length)).toArray) := by
  obtain ⟨i0, hi, hz0, hz1, hz2⟩ := info_parts35
  have hl := run_loadCells_list (P := Tryz.prog) w a cs hsrc
  have hst := run_storeCells_at Tryz.prog g o t cs 0 cur w hg (by simpa using hfit) h1
  rw [hn] at hl
  simp [Builtin.copy_, run_underlying Tryz.underlying30, Builtin.lenOf, Builtin.firstCells, sizeOf, typeInfo, hi, hz1, ← hN, hl, hst]
theorem run_copy2_none (w : World) (ty : TypeId) (d a : Option Addr) (dLen dCap sLen sCap : Nat) (hN : Nat.min sLen dLen = 0) :
    (Builtin.copy_ #[30, 30] ty #[.slice d dLen dCap, .slice a sLen sCap]).run Tryz.prog w = .ok (goInt 0) w := by
  obtain ⟨i0, hi, hz0, hz1, hz2⟩ := info_parts35
  have hl := fun a => run_loadCells_list (P := Tryz.prog) w a [] (by simp)
  simp only [List.length_nil] at hl
  cases d <;> cases a <;> simp [Builtin.copy_, run_underlying Tryz.underlying30, Builtin.lenOf, Builtin.firstCells, sizeOf, typeInfo, hi, hN, storeCells, hl]

theorem cellsP_take (l : List Pr) (k : Nat) : (cellsP l).take (k * 2) = cellsP (l.take k) := by
  induction l generalizing k with
  | nil => simp [cellsP_nil]
  | cons p l ih =>
    cases k with
    | zero => simp [cellsP_nil]
    | succ k =>
      have e : (k + 1) * 2 = k * 2 + 1 + 1 := by omega
      rw [e, cellsP_cons, List.take_succ_cons, List.take_succ_cons, ih, List.take_succ_cons, cellsP_cons]
theorem own_copy {w : World} {base g M cap : Nat} {R : List Pr} (ho : Own w base (.slice (some ⟨g, 0, none⟩) M cap) R) (k : Nat) (h : k + 1 ≤ M) :
    ∃ cur : Array Value, w.heap[g]? = some (.cells cur 58 (0, 0)) ∧ M * 2 ≤ cur.size ∧
      Own (w.setRow g (cur.toList.take ((k + 1) * 2) ++ cellsP ((R.drop k).take (M - k - 1)) ++ cur.toList.drop ((k + 1) * 2 + (cellsP ((R.drop k).take (M - k - 1))).length)).toArray) base (.slice (some ⟨g, 0, none⟩) M cap) (R.take (k + 1) ++ (R.drop k).take (M - k - 1)) := by
  rcases ho.2 with ⟨e, _⟩ | ⟨g', cap', cur, e, hb, hg, hn, hm, hs, ht⟩
  · cases e
  · cases e
    have hsz : R.length * 2 ≤ cur.size := by rw [hs]; omega
    refine ⟨cur, hg, hsz, ?_⟩
    have hcl : (cellsP ((R.drop k).take (R.length - k - 1))).length = (R.length - k - 1) * 2 := by rw [cellsP_length]; simp
    have hlen : (R.take (k + 1) ++ (R.drop k).take (R.length - k - 1)).length = R.length := by simp; omega
    unfold Own
    rw [hlen]
    refine ⟨by rw [cellsP_length, hlen], Or.inr ⟨g, cap, _, rfl, hb, setRow_heap w g cur _ 58 _ hg, by omega, hm, ?_, ?_⟩⟩
    · rw [List.size_toArray, List.length_append, List.length_append, hcl, List.length_take, List.length_drop, Array.length_toList, hs]
      rw [hs] at hsz
      omega
    · have hA : (cur.toList.take ((k + 1) * 2)).length = (k + 1) * 2 := by rw [List.length_take, Array.length_toList]; omega
      have e1 : cur.toList.take ((k + 1) * 2) = cellsP (R.take (k + 1)) := by
        rw [← cellsP_take, ← ht, List.take_take]
        congr 1
        omega
      show (cur.toList.take ((k + 1) * 2) ++ cellsP ((R.drop k).take (R.length - k - 1)) ++ _).take (R.length * 2) = _
      rw [List.take_append_of_le_length (by rw [List.length_append, hA, hcl]; omega), List.take_of_length_le (by rw [List.length_append, hA, hcl]; omega), e1, cellsP_append]
theorem set_cells {R : List Pr} {i : Nat} (hi : i < R.length) (x : Pr) : ((cellsP R).set (i * 2) (tx x.1)).set (i * 2 + 1) (tx x.2) = cellsP (R.set i x) := by
  induction R generalizing i with
  | nil => cases hi
  | cons p R ih =>
    cases i with
    | zero => rfl
    | succ i =>
      have e : (i + 1) * 2 = i * 2 + 1 + 1 := by omega
      rw [e, cellsP_cons, List.set_cons_succ, List.set_cons_succ, List.set_cons_succ, List.set_cons_succ, ih (by simpa using hi), List.set_cons_succ, cellsP_cons]
theorem own_put {w : World} {base g M cap : Nat} {R : List Pr} (ho : Own w base (.slice (some ⟨g, 0, none⟩) M cap) R) (i : Nat) (x : Pr) (h : i < M) :
    Own ((w.setCell ⟨g, i * 2, none⟩ (tx x.1)).setCell ⟨g, i * 2 + 1, none⟩ (tx x.2)) base (.slice (some ⟨g, 0, none⟩) M cap) (R.set i x) := by
  rcases ho.2 with ⟨e, _⟩ | ⟨g', cap', cur, e, hb, hg, hn, hm, hs, ht⟩
  · cases e
  · cases e
    rw [setCell_eq_setRow w g (i * 2) cur 58 (0, 0) _ hg, setCell_eq_setRow _ g (i * 2 + 1) _ 58 (0, 0) _ (setRow_heap w g cur _ 58 _ hg), setRow_setRow]
    unfold Own
    rw [List.length_set]
    refine ⟨by rw [cellsP_length, List.length_set], Or.inr ⟨g, cap, _, rfl, hb, setRow_heap w g cur _ 58 _ hg, hn, hm, by simp [hs], ?_⟩⟩
    rw [Array.toList_setIfInBounds, Array.toList_setIfInBounds, ← set_cells h, ← ht, List.take_set, List.take_set]
end Go.Proofs.YtcbjhfnlhpallaaGreatDoor
/- The reference's sorted: the same pairs, by their names. -/
namespace Go.Proofs.YtcbjhfnlhpallaaGreatDoor
open Go.RowKit

def cutA (ao : Option Addr) (cap k : Nat) : Option Addr := if cap = k then ao else ao.map (·.add (k * 2))
theorem getD_cut (l : List Pr) (lo hi j : Nat) (h : lo + j < hi) : ((l.take hi).drop lo).getD j ([], []) = l.getD (lo + j) ([], []) := by
  simp only [List.getD, List.getElem?_drop, List.getElem?_take]
  rw [if_pos h]
theorem Ps.cut {w : World} {ao : Option Addr} {n cap : Nat} {l : List Pr} (h : Ps w ao n l) (hc : n ≤ cap) (lo hi : Nat) (h1 : lo ≤ hi) (h2 : hi ≤ n) : Ps w (cutA ao cap lo) (hi - lo) ((l.take hi).drop lo) := by
  obtain ⟨e1, e4⟩ := h
  refine ⟨by simp; omega, fun hp => ?_⟩
  obtain ⟨b, off, rfl, hcell⟩ := e4 (by omega)
  refine ⟨b, off + lo * 2, ?_, fun j hj => ?_⟩
  · unfold cutA
    rw [if_neg (by omega)]
    simp [Addr.add_lit]
  · have := hcell (lo + j) (by omega)
    have e : off + (lo + j) * 2 = off + lo * 2 + j * 2 := by omega
    rw [e] at this
    rw [getD_cut l lo hi j (by omega)]
    exact this
theorem sizeElem (w : World) : (sizeOf (Tryz.prog.elem 30)).run Tryz.prog w = .ok 2 w := by kernel_rfl
theorem sliceElem : Tryz.prog.underlying 30 = some (.slice (Tryz.prog.elem 30)) := by kernel_rfl
theorem cut_back (ao : Option Addr) (n cap k : Nat) (h : k ≤ n) (w : World) : (Instr.slice 30 (.slice ao n cap) (some (.int .i64 k)) none none).run Tryz.prog w = .ok (.slice (cutA ao cap k) (n - k) (cap - k)) w := by
  rw [run_slice_l w 30 ao n cap sliceElem .i64 (k : Int) (by omega) (by omega), sizeElem]
  simp [sliced, cutA, Result.andThen]
theorem step_copy2 {ops : Array Oper} {o : Oper} {a : Act} {W : World} {K : Act → World → Prop} {Q : Exit → Act → World → Prop} {E : Prop} (d s : Operand) (dd : Option Tmp)
    (ho : o.op = .call { callee := .builtin .copy, args := #[d, s], argTypes := #[30, 30] }) (hd : o.dst = dd) (hw : Region.wanted o (yielded ops a.tmps) = true)
    (base g M cap k : Nat) (R : List Pr) (hk : k + 1 ≤ M) (hdv : a.eval d = .slice (cutA (some ⟨g, 0, none⟩) cap (k + 1)) (M - (k + 1)) (cap - (k + 1))) (hsv : a.eval s = .slice (cutA (some ⟨g, 0, none⟩) cap k) (M - k) (cap - k))
    (hown : Own W base (.slice (some ⟨g, 0, none⟩) M cap) R)
    (h : ∀ W', Own W' base (.slice (some ⟨g, 0, none⟩) M cap) (R.take (k + 1) ++ (R.drop k).take (M - k - 1)) → (∀ B w0, Below B w0 W → B ≤ g → Below B w0 W') → K (a.put dd (goInt ((M - k - 1 : Nat) : Int))) W') :
    if Region.wanted o (yielded ops a.tmps) = true then Oper.wp Tryz.prog o a W K Q else E := by
  subst hd
  rw [if_pos hw]
  obtain ⟨ao, cap', e, hps, hcap⟩ := hown.slice
  cases e
  by_cases hz : k + 1 = R.length
  · have hrun := run_copy2_none W o.type (cutA (some ⟨g, 0, Option.none⟩) cap (k + 1)) (cutA (some ⟨g, 0, Option.none⟩) cap k) (R.length - (k + 1)) (cap - (k + 1)) (R.length - k) (cap - k) (by rw [hz]; simp)
    have e0 : R.length - k - 1 = 0 := by omega
    have := h W (by
      rw [e0, List.take_zero, List.append_nil, List.take_of_length_le (by omega)]
      exact hown) (fun _ _ hb _ => hb)
    simp only [e0] at this
    unfold Oper.wp
    simp [execOp, ho, resolve, invoke, builtin, hdv, hsv, hrun, Result.andThen]
    exact this
  · obtain ⟨cur, hg, hsz, hO⟩ := own_copy hown k hk
    have hc1 : cutA (some ⟨g, 0, Option.none⟩) cap (k + 1) = some ⟨g, (k + 1) * 2, Option.none⟩ := by unfold cutA; rw [if_neg (by omega)]; simp [Addr.add_lit]
    have hc2 : cutA (some ⟨g, 0, Option.none⟩) cap k = some ⟨g, k * 2, Option.none⟩ := by unfold cutA; rw [if_neg (by omega)]; simp [Addr.add_lit]
    have hsrc := hps.cut hcap k (R.length - 1) (by omega) (by omega)
    rw [hc2, List.drop_take, show R.length - 1 - k = R.length - k - 1 by omega] at hsrc
    have hcl : (cellsP ((R.drop k).take (R.length - k - 1))).length = (R.length - k - 1) * 2 := by rw [cellsP_length]; simp
    have hrun := run_copy2 W o.type g ((k + 1) * 2) (R.length - (k + 1)) (cap - (k + 1)) ⟨g, k * 2, Option.none⟩ (R.length - k) (cap - k) (R.length - k - 1) cur 58 (cellsP ((R.drop k).take (R.length - k - 1))) hg (by show _ = min _ _; omega) hcl hsrc.cells (by rw [hcl]; omega) (cellsP_one _)
    have := h _ hO (fun B w0 hb hB => below_setRow hb hB _)
    rw [hc1] at hdv
    rw [hc2] at hsv
    unfold Oper.wp
    simp only [execOp, ho, resolve, invoke, builtin, hdv, hsv, Sem.run_bind, Sem.run_pure, Result.andThen_ok, List.map_toArray, List.map_cons, List.map_nil, hrun]
    exact this

theorem own_some {w : World} {base : Nat} {v : Value} {l : List Pr} {K : Nat} (h : Own w base v l) (hK : l.length = K + 1) : ∃ g cap, v = .slice (some ⟨g, 0, none⟩) (K + 1) cap := by
  rcases h.2 with ⟨rfl, h0⟩ | ⟨g, cap, cur, rfl, _⟩
  · omega
  · exact ⟨g, cap, by rw [hK]⟩
theorem own_slice6 {w : World} {base : Nat} {v : Value} {l : List Pr} {K : Nat} (h : Own w base v l) (hK : l.length = K) : ∃ ao cap, v = .slice ao K cap ∧ Ps w ao K l ∧ K ≤ cap := by
  obtain ⟨ao, cap, e, hp, hc⟩ := h.slice
  subst hK
  exact ⟨ao, cap, e, hp, hc⟩
theorem own_cells {w : World} {base g M cap : Nat} {R : List Pr} (ho : Own w base (.slice (some ⟨g, 0, none⟩) M cap) R) (i : Nat) (h : i < M) : w.cell? ⟨g, i * 2, none⟩ = some (tx (R.getD i ([], [])).1) ∧ w.cell? ⟨g, i * 2 + 1, none⟩ = some (tx (R.getD i ([], [])).2) := by
  obtain ⟨ao, cap', e, hp, _⟩ := ho.slice
  cases e
  obtain ⟨b, o, e, hc⟩ := hp.2 (by omega)
  cases e
  have := hc i h
  simpa using this
theorem own_frozen {w : World} {base g M cap : Nat} {R : List Pr} (ho : Own w base (.slice (some ⟨g, 0, none⟩) M cap) R) (i : Nat) : w.frozen? ⟨g, i, none⟩ = false := by
  obtain ⟨ao, cap', e, hp, _⟩ := ho.slice
  cases e
  exact World.ownsRow.frozenAt ho i
theorem ins_at {out : List Pr} {k : Nat} {z p : Pr} (h : k ≤ out.length) : ((out ++ [z]).take (k + 1) ++ ((out ++ [z]).drop k).take (out.length + 1 - k - 1)).set k p = out.take k ++ p :: out.drop k := by
  have e1 : ((out ++ [z]).drop k).take (out.length + 1 - k - 1) = out.drop k := by
    rw [List.drop_append_of_le_length h, List.take_append_of_le_length (by simp; omega), List.take_of_length_le (by simp; omega)]
  have hk : k < (out ++ [z]).length := by simp; omega
  have e2 : (out ++ [z]).take (k + 1) = out.take k ++ [(out ++ [z])[k]] := by
    rw [List.take_succ_eq_append_getElem hk, List.take_append_of_le_length h]
  have e3 : (out.take k).length = k := by simp; omega
  rw [e1, e2, List.append_assoc, List.set_append, if_neg (by omega), e3, Nat.sub_self]
  rfl
theorem ins_at2 {out : List Pr} {k j : Nat} {z p : Pr} (e : out.length = j) (h : k ≤ j) : ((out ++ [z]).take (k + 1) ++ ((out ++ [z]).drop k).take (j + 1 - k - 1)).set k p = out.take k ++ p :: out.drop k := by
  subst e
  exact ins_at h
theorem lt_via {p a c : Str} (h : p < a) (k : ¬ c < a) : p < c := by
  by_cases h1 : p < c
  · exact h1
  · by_cases h2 : c < p
    · exact absurd (str_trans h2 h) k
    · rw [str_eq h1 h2] at h
      exact absurd h k
theorem sorted_ins {out : List Pr} {k : Nat} {p : Pr} (hs : sortedN out) (ha : ∀ a, a ∈ out.take k → ¬ p.1 < a.1) (hb : ∀ b, b ∈ out.drop k → p.1 < b.1) : sortedN (out.take k ++ p :: out.drop k) := by
  unfold sortedN at *
  rw [← List.take_append_drop k out, List.pairwise_append] at hs
  rw [List.pairwise_append, List.pairwise_cons]
  refine ⟨hs.1, ⟨fun b h e => str_irrefl _ (str_trans (hb b h) e), hs.2.1⟩, fun a h b h2 => ?_⟩
  rcases List.mem_cons.1 h2 with rfl | h2
  · exact ha a h
  · exact hs.2.2 a h b h2
theorem head_le {out : List Pr} {k : Nat} {p : Pr} (hs : sortedN out) (hk : k < out.length) (h : ¬ p.1 < (out.getD k ([], [])).1) : ∀ a, a ∈ out.take (k + 1) → ¬ p.1 < a.1 := by
  intro a ha hp
  rw [getD_at hk] at h
  rw [List.take_succ_eq_append_getElem hk, List.mem_append] at ha
  rcases ha with ha | ha
  · unfold sortedN at hs
    obtain ⟨i, hi, rfl⟩ := List.mem_iff_getElem.1 ha
    simp at hi
    rw [List.pairwise_iff_getElem] at hs
    have := hs i k (by omega) hk (by omega)
    rw [List.getElem_take] at hp
    exact h (lt_via hp this)
  · rw [List.mem_singleton.1 ha] at hp
    exact h hp
theorem perm_ins {out l : List Pr} {k j : Nat} (hj : j < l.length) (hp : out.Perm (l.take j)) : (out.take k ++ l.getD j ([], []) :: out.drop k).Perm (l.take (j + 1)) := by
  rw [getD_at hj, List.take_succ_eq_append_getElem hj]
  refine List.perm_middle.trans ?_
  rw [List.take_append_drop]
  exact (List.Perm.cons _ hp).trans (List.perm_append_singleton _ _).symm

set_option maxRecDepth 100000 in
set_option maxHeartbeats 4000000 in
theorem refSorted_any (xa : Option Addr) (n c : Nat) (l : List Pr) (w : World) (hn : n ≤ 100000) (hx : Ps w xa n l) :
    Calls Tryz.prog 78 #[.slice xa n c] w fun e w' => ∃ v m, e = .returned v ∧ Own w' w.heap.size v m ∧ m.Perm l ∧ sortedN m ∧ Below w.heap.size w w' := by
  have HL : Hid (l.length = n) := hx.1
  obtain ⟨_, hcell⟩ := hx
  go_enter Tryz.func78, Tryz.ntmps78
  go_wp2_with fail
  go_loopw [4, 3] (fun i u wr => ∃ (j : Nat) (v : Value) (out : List Pr), j ≤ n ∧ i = .int .i64 j ∧ v = u ∧ Own wr w.heap.size v out ∧ Hid (out.Perm (l.take j)) ∧ Hid (sortedN out) ∧ Hid (out.length = j) ∧ Below w.heap.size w wr) (fun i _ _ => n - (intOf i).toNat)
  case atStart => exact ⟨0, _, [], by omega, rfl, rfl, Own.none _ _, List.Perm.refl _, List.Pairwise.nil, rfl, Below.refl _ _⟩
  case round =>
    obtain ⟨j, v, out, hj, rfl, rfl, ho, HP, HS, HLo, hb⟩ := hrel
    by_cases hlt : j < n
    · obtain ⟨b1, o1, rfl, h1⟩ := hcell (by omega)
      obtain ⟨c10, c11⟩ := h1 j hlt
      have m0 : ∀ W, Below w.heap.size w W → W.cell? ⟨b1, o1 + j * 2, none⟩ = some (tx (l.getD j ([], [])).1) := fun W hW => (hW.cell (p := ⟨b1, o1 + j * 2, none⟩) (World.block_lt_of_cell? _ _ c10)).trans c10
      have m1 : ∀ W, Below w.heap.size w W → W.cell? ⟨b1, o1 + j * 2 + 1, none⟩ = some (tx (l.getD j ([], [])).2) := fun W hW => (hW.cell (p := ⟨b1, o1 + j * 2 + 1, none⟩) (World.block_lt_of_cell? _ _ c11)).trans c11
      have HPI : Hid (∀ k, (out.take k ++ l.getD j ([], []) :: out.drop k).Perm (l.take (j + 1))) := fun k => perm_ins (by rw [HL.out]; exact hlt) HP.out
      have HSI : Hid (∀ k, (∀ a, a ∈ out.take k → ¬ (l.getD j ([], [])).1 < a.1) → (∀ b, b ∈ out.drop k → (l.getD j ([], [])).1 < b.1) → sortedN (out.take k ++ l.getD j ([], []) :: out.drop k)) := fun k ha hb => sorted_ins HS.out ha hb
      have HLI : Hid (∀ (p : Pr) k, k ≤ j → (out.take k ++ p :: out.drop k).length = j + 1) := fun p k hk => by have := HLo.out; simp; omega
      have HHL : Hid (∀ k, k < j → ¬ (l.getD j ([], [])).1 < (out.getD k ([], [])).1 → ∀ a, a ∈ out.take (k + 1) → ¬ (l.getD j ([], [])).1 < a.1) := fun k hk h => head_le HS.out (by rw [HLo.out]; exact hk) h
      clear h1 hcell c10 c11 HP HS
      generalize l.getD j ([], []) = p at *
      obtain ⟨p1, p2⟩ := p
      dsimp only at *
      obtain ⟨ao, cap, rfl, hps, hcap⟩ := own_slice6 ho HLo.out
      go_wp2_with fail
      generalize hwr : wr = w1 at *
      clear hwr
      go_loopw [5] (fun i wr => ∃ k : Nat, k ≤ j ∧ i = .int .i64 k ∧ Hid (∀ b, b ∈ out.drop k → p1 < b.1) ∧ Below w1.heap.size w1 wr) (fun i _ => (intOf i).toNat)
      case atStart => exact ⟨j, Nat.le_refl _, rfl, (fun b h => by rw [List.drop_of_length_le (by rw [HLo.out]; exact Nat.le_refl _)] at h; cases h), Below.refl _ _⟩
      case round =>
        obtain ⟨k, hk, rfl, HB, hb2⟩ := hrel
        have ho2 := ho.later hb2
        have B2 : Below w.heap.size w wr := hb.trans (hb2.mono hb.size)
        have q0 := m0 wr B2
        by_cases h0 : k = 0
        · have h0' : ¬ (0 : Int) < k := by omega
          have h0d : decide (0 < k) = false := decide_eq_false (by omega)
          have HP2 : Hid _ := HPI.out k
          have HS2 : Hid _ := HSI.out k (fun a ha => by rw [h0] at ha; cases ha) HB.out
          have HL2 : Hid _ := HLI.out (p1, p2) k hk
          clear HPI HSI HLI HHL HB h0
          go_wp2
          go_quiet (fail)
          have hwr : IntKind.i64.wrap ((k : Int) + 1) = (k : Int) + 1 := by rw [IntKind.wrap_i64]; omega
          have ho3 : Own (wr.drewN nq) w.heap.size (.slice ao j cap) out := ho2.later (below_drewN (Below.refl _ _) nq)
          have hb3 : Below w.heap.size w (wr.drewN nq) := below_drewN B2 nq
          clear ho2 B2 hps hcap
          generalize wr.drewN nq = W3 at *
          have ho4 := ho3.later (bal (Below.refl _ _) (.cells #[tx [], tx []] 58))
          have hb4 := bal hb3 (.cells #[tx [], tx []] 58)
          go_wp2_with (at_builtin; go_must (refine wp_app (w0 := w) rfl _ _ rfl w.heap.size _ out [([], [])] (some ⟨W3.heap.size, 0, none⟩) 1 1 rfl rfl ho4 (Ps.one W3 ([], [])) hb4 (Nat.le_refl _) ?hN ?_))
          case hN => rw [HLo.out]; omega
          intro v7 w7 ho7 hb7
          obtain ⟨g, cap7, rfl⟩ := own_some ho7 (by rw [List.length_append, HLo.out]; rfl : (out ++ [([], [])]).length = j + 1)
          clear ho3 ho4 hb3 hb4
          go_wp2_with fail
          have C0 : Below w7.heap.size w7 w7.drew := (Below.refl _ _).drew
          have O8 := ho7.later C0
          have hb8 : Below w.heap.size w w7.drew := hb7.trans (C0.mono hb7.size)
          clear ho7
          refine wp_region_noPanic ?_
          refine wp_region_held_drew (S := fun W => Below w.heap.size w W) (by kernel_rfl) ?_ (fun _ => ?_)
          · exact hb8
          generalize w7.drew = wd at *
          refine take_at 0 (some 36) (.slice (some ⟨g, 0, none⟩) (j + 1) cap7) rfl rfl (by kernel_rfl) (by kernel_rfl) (by kernel_rfl) (fun _ _ _ h => h) (by rfl) (fun W hSw => by go_simp) hb8 ?_
          simp only [Act.put, List.setIfInBounds_toArray, List.set_cons_zero, List.set_cons_succ]
          refine take_at 1 (some 37) (.int .i64 k) rfl rfl (by kernel_rfl) (by kernel_rfl) (by kernel_rfl) (fun _ _ _ h => h) (by rfl) (fun W hSw => by go_simp) hb8 ?_
          simp only [Act.put, List.setIfInBounds_toArray, List.set_cons_zero, List.set_cons_succ]
          refine take_at 2 (some 38) (.int .i64 ((k : Int) + 1)) rfl rfl (by kernel_rfl) (by kernel_rfl) (by kernel_rfl) (fun _ _ _ h => h) (by rfl) (fun W hSw => by go_simp) hb8 ?_
          simp only [Act.put, List.setIfInBounds_toArray, List.set_cons_zero, List.set_cons_succ]
          refine take_at 3 (some 39) (.slice (cutA (some ⟨g, 0, none⟩) cap7 (k + 1)) (j + 1 - (k + 1)) (cap7 - (k + 1))) rfl rfl (by kernel_rfl) (by kernel_rfl) (by kernel_rfl) (fun _ _ _ h => h) (by rfl) (fun W hSw => by have e3 := cut_back (some ⟨g, 0, none⟩) (j + 1) cap7 (k + 1) (by omega) W; rw [show (((k + 1 : Nat)) : Int) = (k : Int) + 1 by omega] at e3; go_simp) hb8 ?_
          simp only [Act.put, List.setIfInBounds_toArray, List.set_cons_zero, List.set_cons_succ]
          refine take_at 4 (some 40) (.slice (some ⟨g, 0, none⟩) (j + 1) cap7) rfl rfl (by kernel_rfl) (by kernel_rfl) (by kernel_rfl) (fun _ _ _ h => h) (by rfl) (fun W hSw => by go_simp) hb8 ?_
          simp only [Act.put, List.setIfInBounds_toArray, List.set_cons_zero, List.set_cons_succ]
          refine take_at 5 (some 41) (.int .i64 k) rfl rfl (by kernel_rfl) (by kernel_rfl) (by kernel_rfl) (fun _ _ _ h => h) (by rfl) (fun W hSw => by go_simp) hb8 ?_
          simp only [Act.put, List.setIfInBounds_toArray, List.set_cons_zero, List.set_cons_succ]
          refine take_at 6 (some 42) (.slice (cutA (some ⟨g, 0, none⟩) cap7 k) (j + 1 - k) (cap7 - k)) rfl rfl (by kernel_rfl) (by kernel_rfl) (by kernel_rfl) (fun _ _ _ h => h) (by rfl) (fun W hSw => by have e6 := cut_back (some ⟨g, 0, none⟩) (j + 1) cap7 k (by omega) W; go_simp) hb8 ?_
          simp only [Act.put, List.setIfInBounds_toArray, List.set_cons_zero, List.set_cons_succ]
          refine wpAnyH_ready (rs := [7]) (by kernel_rfl) (by simp) ?_
          refine AllReadyH.cons rfl (fun K hK => ?_) AllReadyH.nil
          refine step_copy2 (.tmp 39) (.tmp 42) (some 43) rfl rfl (by rfl) w.heap.size g (j + 1) cap7 k (out ++ [([], [])]) (by omega) rfl rfl O8 ?_
          intro w9 o9 hb9
          have B9 : Below w.heap.size w w9 := hb9 _ _ hb8 (World.ownsRow.lt O8 g rfl).1
          refine hK.out _ _ ?_ (fun _ => ?_)
          · exact B9
          clear hK K
          refine wpAnyH_done (by kernel_rfl) ?_ _
          refine NoPanic.normal ?_
          have hgb := (World.ownsRow.lt O8 g rfl).1
          have n0 := m0 w9 B9
          have n1 := m1 w9 B9
          have oP := own_put o9 k (p1, p2) (by omega)
          obtain ⟨s0, s1⟩ := own_cells o9 k (by omega)
          have z0 := own_frozen o9 (k * 2)
          have z1 := own_frozen o9 (k * 2 + 1)
          have BP : Below w.heap.size w ((w9.setCell ⟨g, k * 2, none⟩ (tx p1)).setCell ⟨g, k * 2 + 1, none⟩ (tx p2)) := (B9.setCell (p := ⟨g, k * 2, none⟩) hgb _).setCell (p := ⟨g, k * 2 + 1, none⟩) hgb _
          have eI := ins_at2 (z := (([], []) : Pr)) (p := (p1, p2)) (HLo.out : out.length = j) hk
          rw [eI] at oP
          clear O8 hb8 hb9 o9 hb7 m0 m1
          go_wp2
          go_roundw
          case rel => exact ⟨j + 1, _, _, by omega, by go_num, rfl, oP, HP2, HS2, HL2, BP⟩
          case measure => simp [intOf]; omega
        · obtain ⟨k', rfl⟩ : ∃ k', k = k' + 1 := ⟨k - 1, by omega⟩
          obtain ⟨g0, o0, rfl, h2⟩ := hps.2 (by omega)
          have q1 := ((hb2.cell (p := ⟨g0, o0 + k' * 2, none⟩) (World.block_lt_of_cell? _ _ (h2 k' (by omega)).1)).trans (h2 k' (by omega)).1)
          have h0d : decide ((0 : Int) < ((k' + 1 : Nat) : Int)) = true := decide_eq_true (by omega)
          have HD : Hid (out.drop k' = out.getD k' ([], []) :: out.drop (k' + 1)) := getD_drop (by rw [HLo.out]; omega)
          by_cases hq : p1 < (out.getD k' ([], [])).1
          · have HB2 : Hid (∀ b, b ∈ out.drop k' → p1 < b.1) := fun b hbm => by
              rw [HD.out] at hbm
              rcases List.mem_cons.1 hbm with rfl | h
              · exact hq
              · exact HB.out b h
            have f1 : Op.bytesLess (out.getD k' ([], [])).1 p1 = false := by rw [less_eq]; exact decide_eq_false (fun e => str_irrefl _ (str_trans hq e))
            have f2 : ((out.getD k' ([], [])).1 == p1) = false := by rw [beq_eq_false_iff_ne]; intro e; rw [e] at hq; exact str_irrefl _ hq
            clear HPI HSI HLI HHL HB HD h0 h2 hq
            generalize out.getD k' ([], []) = y at *
            go_wp2
            go_quiet (fail)
            go_wp2
            go_roundw
            case rel => exact ⟨k', by omega, by go_num, HB2, below_drewN hb2 _⟩
            case measure => simp [intOf]
          · have HP2 : Hid _ := HPI.out (k' + 1)
            have HS2 : Hid _ := HSI.out (k' + 1) (HHL.out k' (by omega) hq) HB.out
            have HL2 : Hid _ := HLI.out (p1, p2) (k' + 1) hk
            clear HPI HSI HLI HHL HB HD h0 h2
            by_cases hy : (out.getD k' ([], [])).1 < p1
            · have f1 : Op.bytesLess (out.getD k' ([], [])).1 p1 = true := by rw [less_eq]; exact decide_eq_true hy
              clear hq hy
              generalize out.getD k' ([], []) = y at *
              go_wp2
              go_quiet (fail)
              clear q1 f1 h0d
              generalize hkk : some (⟨g0, o0, none⟩ : Addr) = ao at *
              clear hkk
              obtain ⟨k, hkk⟩ : ∃ k, k = k' + 1 := ⟨_, rfl⟩
              rw [← hkk] at hk HP2 HS2 HL2 ⊢
              clear hkk
              have hwr : IntKind.i64.wrap ((k : Int) + 1) = (k : Int) + 1 := by rw [IntKind.wrap_i64]; omega
              have ho3 : Own (wr.drewN nq) w.heap.size (.slice ao j cap) out := ho2.later (below_drewN (Below.refl _ _) nq)
              have hb3 : Below w.heap.size w (wr.drewN nq) := below_drewN B2 nq
              clear ho2 B2 hps hcap
              generalize wr.drewN nq = W3 at *
              have ho4 := ho3.later (bal (Below.refl _ _) (.cells #[tx [], tx []] 58))
              have hb4 := bal hb3 (.cells #[tx [], tx []] 58)
              go_wp2_with (at_builtin; go_must (refine wp_app (w0 := w) rfl _ _ rfl w.heap.size _ out [([], [])] (some ⟨W3.heap.size, 0, none⟩) 1 1 rfl rfl ho4 (Ps.one W3 ([], [])) hb4 (Nat.le_refl _) ?hN ?_))
              case hN => rw [HLo.out]; omega
              intro v7 w7 ho7 hb7
              obtain ⟨g, cap7, rfl⟩ := own_some ho7 (by rw [List.length_append, HLo.out]; rfl : (out ++ [([], [])]).length = j + 1)
              clear ho3 ho4 hb3 hb4
              go_wp2_with fail
              have C0 : Below w7.heap.size w7 w7.drew := (Below.refl _ _).drew
              have O8 := ho7.later C0
              have hb8 : Below w.heap.size w w7.drew := hb7.trans (C0.mono hb7.size)
              clear ho7
              refine wp_region_noPanic ?_
              refine wp_region_held_drew (S := fun W => Below w.heap.size w W) (by kernel_rfl) ?_ (fun _ => ?_)
              · exact hb8
              generalize w7.drew = wd at *
              refine take_at 0 (some 36) (.slice (some ⟨g, 0, none⟩) (j + 1) cap7) rfl rfl (by kernel_rfl) (by kernel_rfl) (by kernel_rfl) (fun _ _ _ h => h) (by rfl) (fun W hSw => by go_simp) hb8 ?_
              simp only [Act.put, List.setIfInBounds_toArray, List.set_cons_zero, List.set_cons_succ]
              refine take_at 1 (some 37) (.int .i64 k) rfl rfl (by kernel_rfl) (by kernel_rfl) (by kernel_rfl) (fun _ _ _ h => h) (by rfl) (fun W hSw => by go_simp) hb8 ?_
              simp only [Act.put, List.setIfInBounds_toArray, List.set_cons_zero, List.set_cons_succ]
              refine take_at 2 (some 38) (.int .i64 ((k : Int) + 1)) rfl rfl (by kernel_rfl) (by kernel_rfl) (by kernel_rfl) (fun _ _ _ h => h) (by rfl) (fun W hSw => by go_simp) hb8 ?_
              simp only [Act.put, List.setIfInBounds_toArray, List.set_cons_zero, List.set_cons_succ]
              refine take_at 3 (some 39) (.slice (cutA (some ⟨g, 0, none⟩) cap7 (k + 1)) (j + 1 - (k + 1)) (cap7 - (k + 1))) rfl rfl (by kernel_rfl) (by kernel_rfl) (by kernel_rfl) (fun _ _ _ h => h) (by rfl) (fun W hSw => by have e3 := cut_back (some ⟨g, 0, none⟩) (j + 1) cap7 (k + 1) (by omega) W; rw [show (((k + 1 : Nat)) : Int) = (k : Int) + 1 by omega] at e3; go_simp) hb8 ?_
              simp only [Act.put, List.setIfInBounds_toArray, List.set_cons_zero, List.set_cons_succ]
              refine take_at 4 (some 40) (.slice (some ⟨g, 0, none⟩) (j + 1) cap7) rfl rfl (by kernel_rfl) (by kernel_rfl) (by kernel_rfl) (fun _ _ _ h => h) (by rfl) (fun W hSw => by go_simp) hb8 ?_
              simp only [Act.put, List.setIfInBounds_toArray, List.set_cons_zero, List.set_cons_succ]
              refine take_at 5 (some 41) (.int .i64 k) rfl rfl (by kernel_rfl) (by kernel_rfl) (by kernel_rfl) (fun _ _ _ h => h) (by rfl) (fun W hSw => by go_simp) hb8 ?_
              simp only [Act.put, List.setIfInBounds_toArray, List.set_cons_zero, List.set_cons_succ]
              refine take_at 6 (some 42) (.slice (cutA (some ⟨g, 0, none⟩) cap7 k) (j + 1 - k) (cap7 - k)) rfl rfl (by kernel_rfl) (by kernel_rfl) (by kernel_rfl) (fun _ _ _ h => h) (by rfl) (fun W hSw => by have e6 := cut_back (some ⟨g, 0, none⟩) (j + 1) cap7 k (by omega) W; go_simp) hb8 ?_
              simp only [Act.put, List.setIfInBounds_toArray, List.set_cons_zero, List.set_cons_succ]
              refine wpAnyH_ready (rs := [7]) (by kernel_rfl) (by simp) ?_
              refine AllReadyH.cons rfl (fun K hK => ?_) AllReadyH.nil
              refine step_copy2 (.tmp 39) (.tmp 42) (some 43) rfl rfl (by rfl) w.heap.size g (j + 1) cap7 k (out ++ [([], [])]) (by omega) rfl rfl O8 ?_
              intro w9 o9 hb9
              have B9 : Below w.heap.size w w9 := hb9 _ _ hb8 (World.ownsRow.lt O8 g rfl).1
              refine hK.out _ _ ?_ (fun _ => ?_)
              · exact B9
              clear hK K
              refine wpAnyH_done (by kernel_rfl) ?_ _
              refine NoPanic.normal ?_
              have hgb := (World.ownsRow.lt O8 g rfl).1
              have n0 := m0 w9 B9
              have n1 := m1 w9 B9
              have oP := own_put o9 k (p1, p2) (by omega)
              obtain ⟨s0, s1⟩ := own_cells o9 k (by omega)
              have z0 := own_frozen o9 (k * 2)
              have z1 := own_frozen o9 (k * 2 + 1)
              have BP : Below w.heap.size w ((w9.setCell ⟨g, k * 2, none⟩ (tx p1)).setCell ⟨g, k * 2 + 1, none⟩ (tx p2)) := (B9.setCell (p := ⟨g, k * 2, none⟩) hgb _).setCell (p := ⟨g, k * 2 + 1, none⟩) hgb _
              have eI := ins_at2 (z := (([], []) : Pr)) (p := (p1, p2)) (HLo.out : out.length = j) hk
              rw [eI] at oP
              clear O8 hb8 hb9 o9 hb7 m0 m1
              go_wp2
              go_roundw
              case rel => exact ⟨j + 1, _, _, by omega, by go_num, rfl, oP, HP2, HS2, HL2, BP⟩
              case measure => simp [intOf]; omega
            · have f1 : Op.bytesLess (out.getD k' ([], [])).1 p1 = false := by rw [less_eq]; exact decide_eq_false hy
              have f2 : ((out.getD k' ([], [])).1 == p1) = true := by rw [beq_iff_eq]; exact str_eq hy hq
              clear hq hy
              generalize out.getD k' ([], []) = y at *
              go_wp2
              go_quiet (fail)
              clear q1 f1 f2 h0d
              generalize hkk : some (⟨g0, o0, none⟩ : Addr) = ao at *
              clear hkk
              obtain ⟨k, hkk⟩ : ∃ k, k = k' + 1 := ⟨_, rfl⟩
              rw [← hkk] at hk HP2 HS2 HL2 ⊢
              clear hkk
              have hwr : IntKind.i64.wrap ((k : Int) + 1) = (k : Int) + 1 := by rw [IntKind.wrap_i64]; omega
              have ho3 : Own (wr.drewN nq) w.heap.size (.slice ao j cap) out := ho2.later (below_drewN (Below.refl _ _) nq)
              have hb3 : Below w.heap.size w (wr.drewN nq) := below_drewN B2 nq
              clear ho2 B2 hps hcap
              generalize wr.drewN nq = W3 at *
              have ho4 := ho3.later (bal (Below.refl _ _) (.cells #[tx [], tx []] 58))
              have hb4 := bal hb3 (.cells #[tx [], tx []] 58)
              go_wp2_with (at_builtin; go_must (refine wp_app (w0 := w) rfl _ _ rfl w.heap.size _ out [([], [])] (some ⟨W3.heap.size, 0, none⟩) 1 1 rfl rfl ho4 (Ps.one W3 ([], [])) hb4 (Nat.le_refl _) ?hN ?_))
              case hN => rw [HLo.out]; omega
              intro v7 w7 ho7 hb7
              obtain ⟨g, cap7, rfl⟩ := own_some ho7 (by rw [List.length_append, HLo.out]; rfl : (out ++ [([], [])]).length = j + 1)
              clear ho3 ho4 hb3 hb4
              go_wp2_with fail
              have C0 : Below w7.heap.size w7 w7.drew := (Below.refl _ _).drew
              have O8 := ho7.later C0
              have hb8 : Below w.heap.size w w7.drew := hb7.trans (C0.mono hb7.size)
              clear ho7
              refine wp_region_noPanic ?_
              refine wp_region_held_drew (S := fun W => Below w.heap.size w W) (by kernel_rfl) ?_ (fun _ => ?_)
              · exact hb8
              generalize w7.drew = wd at *
              refine take_at 0 (some 36) (.slice (some ⟨g, 0, none⟩) (j + 1) cap7) rfl rfl (by kernel_rfl) (by kernel_rfl) (by kernel_rfl) (fun _ _ _ h => h) (by rfl) (fun W hSw => by go_simp) hb8 ?_
              simp only [Act.put, List.setIfInBounds_toArray, List.set_cons_zero, List.set_cons_succ]
              refine take_at 1 (some 37) (.int .i64 k) rfl rfl (by kernel_rfl) (by kernel_rfl) (by kernel_rfl) (fun _ _ _ h => h) (by rfl) (fun W hSw => by go_simp) hb8 ?_
              simp only [Act.put, List.setIfInBounds_toArray, List.set_cons_zero, List.set_cons_succ]
              refine take_at 2 (some 38) (.int .i64 ((k : Int) + 1)) rfl rfl (by kernel_rfl) (by kernel_rfl) (by kernel_rfl) (fun _ _ _ h => h) (by rfl) (fun W hSw => by go_simp) hb8 ?_
              simp only [Act.put, List.setIfInBounds_toArray, List.set_cons_zero, List.set_cons_succ]
              refine take_at 3 (some 39) (.slice (cutA (some ⟨g, 0, none⟩) cap7 (k + 1)) (j + 1 - (k + 1)) (cap7 - (k + 1))) rfl rfl (by kernel_rfl) (by kernel_rfl) (by kernel_rfl) (fun _ _ _ h => h) (by rfl) (fun W hSw => by have e3 := cut_back (some ⟨g, 0, none⟩) (j + 1) cap7 (k + 1) (by omega) W; rw [show (((k + 1 : Nat)) : Int) = (k : Int) + 1 by omega] at e3; go_simp) hb8 ?_
              simp only [Act.put, List.setIfInBounds_toArray, List.set_cons_zero, List.set_cons_succ]
              refine take_at 4 (some 40) (.slice (some ⟨g, 0, none⟩) (j + 1) cap7) rfl rfl (by kernel_rfl) (by kernel_rfl) (by kernel_rfl) (fun _ _ _ h => h) (by rfl) (fun W hSw => by go_simp) hb8 ?_
              simp only [Act.put, List.setIfInBounds_toArray, List.set_cons_zero, List.set_cons_succ]
              refine take_at 5 (some 41) (.int .i64 k) rfl rfl (by kernel_rfl) (by kernel_rfl) (by kernel_rfl) (fun _ _ _ h => h) (by rfl) (fun W hSw => by go_simp) hb8 ?_
              simp only [Act.put, List.setIfInBounds_toArray, List.set_cons_zero, List.set_cons_succ]
              refine take_at 6 (some 42) (.slice (cutA (some ⟨g, 0, none⟩) cap7 k) (j + 1 - k) (cap7 - k)) rfl rfl (by kernel_rfl) (by kernel_rfl) (by kernel_rfl) (fun _ _ _ h => h) (by rfl) (fun W hSw => by have e6 := cut_back (some ⟨g, 0, none⟩) (j + 1) cap7 k (by omega) W; go_simp) hb8 ?_
              simp only [Act.put, List.setIfInBounds_toArray, List.set_cons_zero, List.set_cons_succ]
              refine wpAnyH_ready (rs := [7]) (by kernel_rfl) (by simp) ?_
              refine AllReadyH.cons rfl (fun K hK => ?_) AllReadyH.nil
              refine step_copy2 (.tmp 39) (.tmp 42) (some 43) rfl rfl (by rfl) w.heap.size g (j + 1) cap7 k (out ++ [([], [])]) (by omega) rfl rfl O8 ?_
              intro w9 o9 hb9
              have B9 : Below w.heap.size w w9 := hb9 _ _ hb8 (World.ownsRow.lt O8 g rfl).1
              refine hK.out _ _ ?_ (fun _ => ?_)
              · exact B9
              clear hK K
              refine wpAnyH_done (by kernel_rfl) ?_ _
              refine NoPanic.normal ?_
              have hgb := (World.ownsRow.lt O8 g rfl).1
              have n0 := m0 w9 B9
              have n1 := m1 w9 B9
              have oP := own_put o9 k (p1, p2) (by omega)
              obtain ⟨s0, s1⟩ := own_cells o9 k (by omega)
              have z0 := own_frozen o9 (k * 2)
              have z1 := own_frozen o9 (k * 2 + 1)
              have BP : Below w.heap.size w ((w9.setCell ⟨g, k * 2, none⟩ (tx p1)).setCell ⟨g, k * 2 + 1, none⟩ (tx p2)) := (B9.setCell (p := ⟨g, k * 2, none⟩) hgb _).setCell (p := ⟨g, k * 2 + 1, none⟩) hgb _
              have eI := ins_at2 (z := (([], []) : Pr)) (p := (p1, p2)) (HLo.out : out.length = j) hk
              rw [eI] at oP
              clear O8 hb8 hb9 o9 hb7 m0 m1
              go_wp2
              go_roundw
              case rel => exact ⟨j + 1, _, _, by omega, by go_num, rfl, oP, HP2, HS2, HL2, BP⟩
              case measure => simp [intOf]; omega
    · have HR : Hid (l.take j = l) := by show _ = _; rw [List.take_of_length_le (by rw [HL.out]; omega)]
      have HPP : Hid (out.Perm l) := by have := HP.out; rw [HR.out] at this; exact this
      clear HR HP hcell
      go_wp2_with fail
      go_ret
      exact ⟨_, out, rfl, ho, HPP.out, HS.out, hb⟩
end Go.Proofs.YtcbjhfnlhpallaaGreatDoor
/- The reference's Quoted. -/
namespace Go.Proofs.YtcbjhfnlhpallaaGreatDoor
open Go.RowKit

/-- Behind the first quote: the text, and how many bytes with the closing quote. -/
def qd : Str → Option (Str × Nat)
  | [] => none
  | [c] => if c = 34 then some ([], 1) else none
  | c :: d :: r =>
    if c = 34 then some ([], 1)
    else if c = 92 then (if d = 34 ∨ d = 92 then (qd r).map fun x => (d :: x.1, x.2 + 2) else none)
    else if c = 10 then none
    else (qd (d :: r)).map fun x => (c :: x.1, x.2 + 1)
theorem qd_quote (r : Str) : qd (34 :: r) = some ([], 1) := by
  cases r with
  | nil => rfl
  | cons d r => rw [qd, if_pos rfl]
theorem qd_plain {c : UInt8} (r : Str) (h1 : c ≠ 34) (h2 : c ≠ 92) (h3 : c ≠ 10) : qd (c :: r) = (qd r).map fun x => (c :: x.1, x.2 + 1) := by
  cases r with
  | nil =>
    show (if c = 34 then some ([], 1) else none) = none
    rw [if_neg h1]
  | cons d r => rw [qd, if_neg h1, if_neg h2, if_neg h3]
theorem qd_back {d : UInt8} (r : Str) (h : d = 34 ∨ d = 92) : qd (92 :: d :: r) = (qd r).map fun x => (d :: x.1, x.2 + 2) := by
  rw [qd, if_neg (by decide), if_pos rfl, if_pos h]
theorem qd_back_no {d : UInt8} (r : Str) (h : ¬ (d = 34 ∨ d = 92)) : qd (92 :: d :: r) = none := by
  rw [qd, if_neg (by decide), if_pos rfl, if_neg h]
theorem qd_line (r : Str) : qd (10 :: r) = none := by
  cases r with
  | nil => rfl
  | cons d r => rw [qd, if_neg (by decide), if_neg (by decide), if_pos rfl]
def qText (s : Str) : Str := if s.head? = some 34 then ((qd s.tail).map (·.1)).getD [] else []
def qLen (s : Str) : Nat := if s.head? = some 34 then ((qd s.tail).map (·.2 + 1)).getD 0 else 0
theorem qd_esc (v r : Str) (hv : v.contains 10 = false) : qd (esc v ++ 34 :: r) = some (v, (esc v).length + 1) := by
  induction v with
  | nil => exact qd_quote r
  | cons c v ih =>
    rw [List.contains_cons, Bool.or_eq_false_iff] at hv
    have hc : c ≠ 10 := fun e => by rw [e] at hv; simp at hv
    have := ih hv.2
    have e1 : esc (c :: v) = escC c ++ esc v := rfl
    rw [e1]
    unfold escC
    by_cases h : c = 92 ∨ c = 34
    · rw [if_pos h]
      show qd (92 :: c :: (esc v ++ 34 :: r)) = _
      rw [qd_back _ (Or.comm.1 h), this]
      simp
    · rw [if_neg h]
      show qd (c :: (esc v ++ 34 :: r)) = _
      rw [qd_plain _ (fun e => h (Or.inr e)) (fun e => h (Or.inl e)) hc, this]
      simp
/-- What the loop holds at place i: what is read, and what is left to read. -/
def qAt (s : Str) (i : Nat) (b : Str) : Prop := qd (s.drop 1) = (qd (s.drop i)).map fun x => (b ++ x.1, (i - 1) + x.2)
theorem qAt_start (s : Str) : qAt s 1 [] := by
  unfold qAt
  cases qd (s.drop 1) <;> simp
theorem qAt_plain {s b : Str} {i : Nat} (h : i < s.length) (h0 : 1 ≤ i) (hq : qAt s i b) (h1 : s[i] ≠ 34) (h2 : s[i] ≠ 92) (h3 : s[i] ≠ 10) : qAt s (i + 1) (b ++ [s[i]]) := by
  unfold qAt at *
  rw [hq, List.drop_eq_getElem_cons h, qd_plain _ h1 h2 h3]
  cases qd (s.drop (i + 1)) with
  | none => rfl
  | some x => simp; omega
theorem qAt_back {s b : Str} {i : Nat} (h : i + 1 < s.length) (h0 : 1 ≤ i) (hq : qAt s i b) (h1 : s[i] = 92) (h2 : s[i + 1] = 34 ∨ s[i + 1] = 92) : qAt s (i + 2) (b ++ [s[i + 1]]) := by
  unfold qAt at *
  rw [hq, List.drop_eq_getElem_cons (show i < s.length by omega), List.drop_eq_getElem_cons h, h1, qd_back _ h2]
  cases qd (s.drop (i + 1 + 1)) with
  | none => rfl
  | some x => simp; omega
theorem qAt_end {s b : Str} {i : Nat} (h : i < s.length) (h0 : 1 ≤ i) (hq : qAt s i b) (h1 : s[i] = 34) : qd (s.drop 1) = some (b, i) := by
  unfold qAt at hq
  rw [hq, List.drop_eq_getElem_cons h, h1, qd_quote]
  simp
  omega
theorem qAt_none {s b : Str} {i : Nat} (hq : qAt s i b) (h : qd (s.drop i) = none) : qd (s.drop 1) = none := by
  unfold qAt at hq
  rw [hq, h]
  rfl

theorem q_some {s : Str} {x : Str × Nat} (h0 : s.head? = some 34) (h : qd (s.drop 1) = some x) : qText s = x.1 ∧ qLen s = x.2 + 1 := by
  unfold qText qLen
  rw [if_pos h0, if_pos h0, ← List.drop_one, h]
  exact ⟨rfl, rfl⟩
theorem q_none {s : Str} (h : qd (s.drop 1) = none) : qText s = [] ∧ qLen s = 0 := by
  unfold qText qLen
  rw [← List.drop_one, h]
  simp
theorem q_not {s : Str} (h : s.head? ≠ some 34) : qText s = [] ∧ qLen s = 0 := by
  unfold qText qLen
  rw [if_neg h, if_neg h]
  exact ⟨rfl, rfl⟩
theorem head_at {s : Str} (h : 0 < s.length) : s.head? = some s[0] := by
  cases s with
  | nil => cases h
  | cons c r => rfl
theorem ownB_none (w : World) (base : Nat) : OwnB w base (.slice none 0 0) [] := ⟨rfl, Or.inl ⟨rfl, rfl⟩⟩

set_option maxRecDepth 100000 in
set_option maxHeartbeats 4000000 in
theorem quoted_any (s : Str) (w : World) (hs : s.length ≤ 1000000) : Calls Tryz.prog 77 #[tx s] w fun e w' => e = .returned (.tuple #[tx (qText s), .int .i64 (qLen s : Nat)]) ∧ Below w.heap.size w w' := by
  obtain ⟨i0, hi, hz0, hz1, hz2⟩ := info_parts5
  by_cases he : s = []
  · have HQ : Hid (qText s = [] ∧ qLen s = 0) := q_not (by rw [he]; simp)
    have he' : (s == []) = true := by simpa using he
    clear he
    go_enter Tryz.func77, Tryz.ntmps77
    go_wp2_with fail
    go_ret2
    exact ⟨by rw [HQ.out.1, HQ.out.2]; rfl, Below.refl _ _⟩
  · have he' : (s == []) = false := by simpa using he
    have hpos : 0 < s.length := List.length_pos_iff.2 he
    have hb0 := ba_lt hpos
    have HH : Hid (s.head? = some ((⟨s.toArray⟩ : ByteArray)[0]'hb0)) := head_at hpos
    clear he
    by_cases hq0 : (((⟨s.toArray⟩ : ByteArray)[0]'hb0).toNat : Int) = 34
    · have HH34 : Hid (s.head? = some 34) := by show _ = _; rw [HH.out, byte_eq (k := 34) (by decide) hq0]; rfl
      have hq0' : ((((⟨s.toArray⟩ : ByteArray)[0]'hb0).toNat : Int) == 34) = true := beq_iff_eq.2 hq0
      have hq0n : ((((⟨s.toArray⟩ : ByteArray)[0]'hb0).toNat : Int) != 34) = false := by rw [bne, hq0']; rfl
      clear hq0 HH
      go_enter Tryz.func77, Tryz.ntmps77
      go_wp2_with fail
      go_loopw [5, 4] (fun i u wr => ∃ (j : Nat) (v : Value) (l : Str), j ≤ s.length ∧ 1 ≤ j ∧ l.length ≤ j ∧ i = .int .i64 j ∧ v = u ∧ OwnB wr w.heap.size v l ∧ Hid (qAt s j l) ∧ Below w.heap.size w wr) (fun i _ _ => s.length - (intOf i).toNat)
      case atStart => exact ⟨1, _, [], by omega, by omega, by simp, rfl, rfl, ownB_none _ _, qAt_start s, Below.refl _ _⟩
      case round =>
        obtain ⟨j, v, l, hj, hj1, hlj, rfl, rfl, ho, HR, hb⟩ := hrel
        have hcv := ho.string
        by_cases hlt : j < s.length
        · have hbk := ba_lt hlt
          have HC : Hid (s[j] = ((⟨s.toArray⟩ : ByteArray)[j]'hbk)) := rfl
          by_cases hq : (((⟨s.toArray⟩ : ByteArray)[j]'hbk).toNat : Int) = 34
          · have HQ : Hid (qText s = l ∧ qLen s = j + 1) := q_some HH34.out (qAt_end hlt hj1 HR.out (by rw [HC.out]; exact byte_eq (k := 34) (by decide) hq))
            clear HR HC
            have hq' : ((((⟨s.toArray⟩ : ByteArray)[j]'hbk).toNat : Int) == 34) = true := beq_iff_eq.2 hq
            clear hq
            have hcd : ∀ k, (convert 60 9 v).run Tryz.prog (wr.drewN k) = .ok (tx l) (wr.drewN k) := fun k => hcv _ (below_drewN (Below.refl _ _) k)
            have hc0 := hcv wr (Below.refl _ _)
            have hwr : IntKind.i64.wrap ((j : Int) + 1) = (j : Int) + 1 := by rw [IntKind.wrap_i64]; omega
            clear hcv
            go_wp2_with fail
            go_ret2
            exact ⟨by rw [HQ.out.1, HQ.out.2]; rfl, hb⟩
          · have hq1 := byte_ne (k := 34) (by decide) hq
            have hq' : ((((⟨s.toArray⟩ : ByteArray)[j]'hbk).toNat : Int) == 34) = false := beq_eq_false_iff_ne.2 hq
            by_cases hk : (((⟨s.toArray⟩ : ByteArray)[j]'hbk).toNat : Int) = 92
            · have hk' : ((((⟨s.toArray⟩ : ByteArray)[j]'hbk).toNat : Int) == 92) = true := beq_iff_eq.2 hk
              have hk2 : s[j] = 92 := by rw [HC.out]; exact byte_eq (k := 92) (by decide) hk
              have hwr : IntKind.i64.wrap ((j : Int) + 1) = (j : Int) + 1 := by rw [IntKind.wrap_i64]; omega
              by_cases h1 : j + 1 < s.length
              · have hbk1 := ba_lt h1
                have h1' : ¬ (s.length : Int) ≤ (j : Int) + 1 := by omega
                have HC1 : Hid (s[j + 1] = ((⟨s.toArray⟩ : ByteArray)[j + 1]'hbk1)) := rfl
                have hix : ∀ W, (Instr.index 9 (tx s) (.int .i64 ((j : Int) + 1))).run Tryz.prog W = .ok (by8 ((⟨s.toArray⟩ : ByteArray)[j + 1]'hbk1)) W := fun W => index_at s (j + 1) hbk1 W
                by_cases d1 : (((⟨s.toArray⟩ : ByteArray)[j + 1]'hbk1).toNat : Int) = 34
                · have HN : Hid (qAt s (j + 2) (l ++ [((⟨s.toArray⟩ : ByteArray)[j + 1]'hbk1)])) := qAt_back h1 hj1 HR.out hk2 (Or.inl (by rw [HC1.out]; exact byte_eq (k := 34) (by decide) d1))
                  have d1' : ((((⟨s.toArray⟩ : ByteArray)[j + 1]'hbk1).toNat : Int) == 34) = true := beq_iff_eq.2 d1
                  have d1n : ((((⟨s.toArray⟩ : ByteArray)[j + 1]'hbk1).toNat : Int) != 34) = false := by rw [bne, d1']; rfl
                  clear HR hq hq1 hk hk2 hcv d1 HC HC1
                  have ho1 := ho.later (bal (Below.refl _ _) (.cells #[by8 ((⟨s.toArray⟩ : ByteArray)[j + 1]'hbk1)] 5))
                  have hbo := bal hb (.cells #[by8 ((⟨s.toArray⟩ : ByteArray)[j + 1]'hbk1)] 5)
                  go_wp2_with (at_builtin; go_must (refine wpList_append_own _ rfl _ _ 60 rfl w.heap.size 5 i0 (.int .u8 0) 1 1 Tryz.underlying60 hi hz0 hz1 hz2 rfl (by decide) _ _ _ rfl ho1 ⟨wr.heap.size, 0, none⟩ 1 1 [by8 ((⟨s.toArray⟩ : ByteArray)[j + 1]'hbk1)] rfl rfl (one_cell (World.cell?_alloc_new wr _ _ 0)) (fun u hu => by cases hu with | head => rfl | tail _ h => cases h) ?h63 ?hby ?hbs ?_))
                  case h63 => unfold maxLen; omega
                  case hby => omega
                  case hbs => have := hb.size; simp; omega
                  intro v' w2 ho4 hg4 _
                  go_wp2
                  go_roundw
                  case rel => exact ⟨j + 2, _, l ++ [((⟨s.toArray⟩ : ByteArray)[j + 1]'hbk1)], by omega, by omega, by simp; omega, by go_num, rfl, OwnB.snoc ho4, HN, hbo.grown hg4 hbo.size (fun k hk => (World.ownsRow.lt ho1 k hk).1)⟩
                  case measure => simp [intOf]; omega
                · have d1' : ((((⟨s.toArray⟩ : ByteArray)[j + 1]'hbk1).toNat : Int) == 34) = false := beq_eq_false_iff_ne.2 d1
                  have d1n : ((((⟨s.toArray⟩ : ByteArray)[j + 1]'hbk1).toNat : Int) != 34) = true := by rw [bne, d1']; rfl
                  by_cases d2 : (((⟨s.toArray⟩ : ByteArray)[j + 1]'hbk1).toNat : Int) = 92
                  · have HN : Hid (qAt s (j + 2) (l ++ [((⟨s.toArray⟩ : ByteArray)[j + 1]'hbk1)])) := qAt_back h1 hj1 HR.out hk2 (Or.inr (by rw [HC1.out]; exact byte_eq (k := 92) (by decide) d2))
                    have d2' : ((((⟨s.toArray⟩ : ByteArray)[j + 1]'hbk1).toNat : Int) == 92) = true := beq_iff_eq.2 d2
                    have d2n : ((((⟨s.toArray⟩ : ByteArray)[j + 1]'hbk1).toNat : Int) != 92) = false := by rw [bne, d2']; rfl
                    clear HR hq hq1 hk hk2 hcv d1 d2 HC HC1
                    have ho1 := ho.later (bal (Below.refl _ _) (.cells #[by8 ((⟨s.toArray⟩ : ByteArray)[j + 1]'hbk1)] 5))
                    have hbo := bal hb (.cells #[by8 ((⟨s.toArray⟩ : ByteArray)[j + 1]'hbk1)] 5)
                    go_wp2_with (at_builtin; go_must (refine wpList_append_own _ rfl _ _ 60 rfl w.heap.size 5 i0 (.int .u8 0) 1 1 Tryz.underlying60 hi hz0 hz1 hz2 rfl (by decide) _ _ _ rfl ho1 ⟨wr.heap.size, 0, none⟩ 1 1 [by8 ((⟨s.toArray⟩ : ByteArray)[j + 1]'hbk1)] rfl rfl (one_cell (World.cell?_alloc_new wr _ _ 0)) (fun u hu => by cases hu with | head => rfl | tail _ h => cases h) ?h63 ?hby ?hbs ?_))
                    case h63 => unfold maxLen; omega
                    case hby => omega
                    case hbs => have := hb.size; simp; omega
                    intro v' w2 ho4 hg4 _
                    go_wp2
                    go_roundw
                    case rel => exact ⟨j + 2, _, l ++ [((⟨s.toArray⟩ : ByteArray)[j + 1]'hbk1)], by omega, by omega, by simp; omega, by go_num, rfl, OwnB.snoc ho4, HN, hbo.grown hg4 hbo.size (fun k hk => (World.ownsRow.lt ho1 k hk).1)⟩
                    case measure => simp [intOf]; omega
                  · have d2' : ((((⟨s.toArray⟩ : ByteArray)[j + 1]'hbk1).toNat : Int) == 92) = false := beq_eq_false_iff_ne.2 d2
                    have d2n : ((((⟨s.toArray⟩ : ByteArray)[j + 1]'hbk1).toNat : Int) != 92) = true := by rw [bne, d2']; rfl
                    have HQ : Hid (qText s = [] ∧ qLen s = 0) := q_none (qAt_none HR.out (by
                      rw [List.drop_eq_getElem_cons hlt, List.drop_eq_getElem_cons h1, hk2]
                      refine qd_back_no _ ?_
                      rintro (e | e)
                      · exact byte_ne (k := 34) (by decide) d1 (by rw [← HC1.out, e]; rfl)
                      · exact byte_ne (k := 92) (by decide) d2 (by rw [← HC1.out, e]; rfl)))
                    clear HR hq hq1 hk hk2 hcv d1 d2 HC HC1
                    go_wp2_with fail
                    go_ret2
                    exact ⟨by rw [HQ.out.1, HQ.out.2]; rfl, hb⟩
              · have h1' : (s.length : Int) ≤ (j : Int) + 1 := by omega
                have HQ : Hid (qText s = [] ∧ qLen s = 0) := q_none (qAt_none HR.out (by
                  rw [List.drop_eq_getElem_cons hlt, List.drop_of_length_le (by omega), hk2]
                  rfl))
                clear HR hq hq1 hk hk2 hcv HC
                go_wp2_with fail
                go_ret2
                exact ⟨by rw [HQ.out.1, HQ.out.2]; rfl, hb⟩
            · have hk' : ((((⟨s.toArray⟩ : ByteArray)[j]'hbk).toNat : Int) == 92) = false := beq_eq_false_iff_ne.2 hk
              by_cases hl : (((⟨s.toArray⟩ : ByteArray)[j]'hbk).toNat : Int) = 10
              · have hl' : ((((⟨s.toArray⟩ : ByteArray)[j]'hbk).toNat : Int) == 10) = true := beq_iff_eq.2 hl
                have HQ : Hid (qText s = [] ∧ qLen s = 0) := q_none (qAt_none HR.out (by
                  rw [List.drop_eq_getElem_cons hlt, show s[j] = 10 by rw [HC.out]; exact byte_eq (k := 10) (by decide) hl]
                  exact qd_line _))
                clear HR hq hq1 hk hl hcv HC
                go_wp2_with fail
                go_ret2
                exact ⟨by rw [HQ.out.1, HQ.out.2]; rfl, hb⟩
              · have hl' : ((((⟨s.toArray⟩ : ByteArray)[j]'hbk).toNat : Int) == 10) = false := beq_eq_false_iff_ne.2 hl
                have HN : Hid (qAt s (j + 1) (l ++ [((⟨s.toArray⟩ : ByteArray)[j]'hbk)])) := qAt_plain hlt hj1 HR.out (by rw [HC.out]; exact hq1) (by rw [HC.out]; exact byte_ne (k := 92) (by decide) hk) (by rw [HC.out]; exact byte_ne (k := 10) (by decide) hl)
                clear HR hq hq1 hk hl hcv HC
                have ho1 := ho.later (bal (Below.refl _ _) (.cells #[by8 ((⟨s.toArray⟩ : ByteArray)[j]'hbk)] 5))
                have hbo := bal hb (.cells #[by8 ((⟨s.toArray⟩ : ByteArray)[j]'hbk)] 5)
                go_wp2_with (at_builtin; go_must (refine wpList_append_own _ rfl _ _ 60 rfl w.heap.size 5 i0 (.int .u8 0) 1 1 Tryz.underlying60 hi hz0 hz1 hz2 rfl (by decide) _ _ _ rfl ho1 ⟨wr.heap.size, 0, none⟩ 1 1 [by8 ((⟨s.toArray⟩ : ByteArray)[j]'hbk)] rfl rfl (one_cell (World.cell?_alloc_new wr _ _ 0)) (fun u hu => by cases hu with | head => rfl | tail _ h => cases h) ?h63 ?hby ?hbs ?_))
                case h63 => unfold maxLen; omega
                case hby => omega
                case hbs => have := hb.size; simp; omega
                intro v' w2 ho4 hg4 _
                go_wp2
                go_roundw
                case rel => exact ⟨j + 1, _, l ++ [((⟨s.toArray⟩ : ByteArray)[j]'hbk)], by omega, by omega, by simp; omega, by go_num, rfl, OwnB.snoc ho4, HN, hbo.grown hg4 hbo.size (fun k hk => (World.ownsRow.lt ho1 k hk).1)⟩
                case measure => simp [intOf]; omega
        · have HQ : Hid (qText s = [] ∧ qLen s = 0) := q_none (qAt_none HR.out (by rw [List.drop_of_length_le (by omega)]; rfl))
          clear HR hcv
          go_wp2_with fail
          go_ret2
          exact ⟨by rw [HQ.out.1, HQ.out.2]; rfl, hb⟩
    · have HQ : Hid (qText s = [] ∧ qLen s = 0) := q_not (by
        rw [HH.out]
        intro e
        exact byte_ne (k := 34) (by decide) hq0 (Option.some.inj e))
      have hq0' : ((((⟨s.toArray⟩ : ByteArray)[0]'hb0).toNat : Int) == 34) = false := beq_eq_false_iff_ne.2 hq0
      have hq0n : ((((⟨s.toArray⟩ : ByteArray)[0]'hb0).toNat : Int) != 34) = true := by rw [bne, hq0']; rfl
      clear hq0 HH
      go_enter Tryz.func77, Tryz.ntmps77
      go_wp2_with fail
      go_ret2
      exact ⟨by rw [HQ.out.1, HQ.out.2]; rfl, Below.refl _ _⟩
end Go.Proofs.YtcbjhfnlhpallaaGreatDoor
/- What the reference's reader finds in a text that was printed. -/
namespace Go.Proofs.YtcbjhfnlhpallaaGreatDoor
open Go.RowKit

def idn (t : Str) : Nat := (t.takeWhile nameCh).length
theorem idn_le (t : Str) : idn t ≤ t.length := (List.takeWhile_sublist _).length_le
theorem takeWhile_app {a b : Str} (ha : ∀ x ∈ a, nameCh x = true) (hb : ∀ c r, b = c :: r → nameCh c = false) : (a ++ b).takeWhile nameCh = a := by
  rw [List.takeWhile_append_of_pos ha]
  cases b with
  | nil => simp
  | cons c r => rw [List.takeWhile_cons, hb c r rfl]; simp
theorem name_chs {s : Str} (h : fName s = true) : ∀ x ∈ s, nameCh x = true := by
  unfold fName at h
  simp only [Bool.and_eq_true, List.all_eq_true] at h
  exact h.2
def behind (rest : List Pr) : Str := if rest = [] then [125] else 44 :: (inner rest ++ [125])
theorem inner_split (p : Pr) (rest : List Pr) : inner (p :: rest) ++ [125] = p.1 ++ 61 :: (34 :: (esc p.2 ++ 34 :: behind rest)) := by
  unfold behind
  cases rest with
  | nil => rw [inner_one, if_pos rfl]; unfold pairT; simp
  | cons q r => rw [inner_cons, if_neg (by simp)]; unfold pairT; simp
theorem qd_bound : ∀ (k : Nat) (s : Str), s.length ≤ k → ∀ x, qd s = some x → x.2 ≤ s.length ∧ x.1.length ≤ s.length
  | _, [], _, x, e => by cases e
  | 0, c :: r, h, x, e => by simp at h
  | k + 1, c :: r, h, x, e => by
    rw [List.length_cons] at h
    by_cases h1 : c = 34
    · subst h1
      rw [qd_quote] at e
      cases e
      simp
    · by_cases h2 : c = 92
      · subst h2
        cases r with
        | nil => rw [qd] at e; simp at e
        | cons d r2 =>
          by_cases h3 : d = 34 ∨ d = 92
          · rw [qd_back _ h3, Option.map_eq_some_iff] at e
            obtain ⟨y, hy, rfl⟩ := e
            have := qd_bound k r2 (by rw [List.length_cons] at h; omega) y hy
            simp only [List.length_cons]
            omega
          · rw [qd_back_no _ h3] at e
            cases e
      · by_cases h3 : c = 10
        · subst h3
          rw [qd_line] at e
          cases e
        · rw [qd_plain _ h1 h2 h3, Option.map_eq_some_iff] at e
          obtain ⟨y, hy, rfl⟩ := e
          have := qd_bound k r (by omega) y hy
          simp only [List.length_cons]
          omega
theorem q_bound (s : Str) : qLen s ≤ s.length ∧ (qText s).length ≤ s.length := by
  unfold qLen qText
  split
  · rename_i h
    cases s with
    | nil => cases h
    | cons c r =>
      cases hq : qd r with
      | none => simp [hq]
      | some x =>
        have := qd_bound _ r (Nat.le_refl _) x hq
        simp [hq]
        omega
  · simp
/-- One step of the reader on what was printed. -/
theorem one_step {p : Pr} {rest : List Pr} (hn : fName p.1 = true) (hv : fVal p.2 = true) :
    let t := inner (p :: rest) ++ [125]
    idn t = p.1.length ∧ 1 ≤ p.1.length ∧ p.1.length < t.length ∧ t.getD p.1.length 0 = 61 ∧ t.take p.1.length = p.1 ∧ qText (t.drop (p.1.length + 1)) = p.2 ∧ qLen (t.drop (p.1.length + 1)) ≠ 0 ∧ t.drop (p.1.length + 1 + qLen (t.drop (p.1.length + 1))) = behind rest := by
  intro t
  have ht : t = p.1 ++ 61 :: (34 :: (esc p.2 ++ 34 :: behind rest)) := inner_split p rest
  have hnl : p.2.contains 10 = false := by
    unfold fVal at hv
    simp only [Bool.and_eq_true] at hv
    simpa using hv.2
  have hd : t.drop (p.1.length + 1) = 34 :: (esc p.2 ++ 34 :: behind rest) := by
    rw [ht, ← List.drop_drop, List.drop_left]
    rfl
  have hq := qd_esc p.2 (behind rest) hnl
  have hl : qLen (t.drop (p.1.length + 1)) = (esc p.2).length + 2 := by
    rw [hd]
    unfold qLen
    rw [if_pos (show ((34 : UInt8) :: (esc p.2 ++ 34 :: behind rest)).head? = some 34 from rfl), List.tail_cons, hq]
    rfl
  have hx : qText (t.drop (p.1.length + 1)) = p.2 := by
    rw [hd]
    unfold qText
    rw [if_pos (show ((34 : UInt8) :: (esc p.2 ++ 34 :: behind rest)).head? = some 34 from rfl), List.tail_cons, hq]
    rfl
  refine ⟨?_, (name_len hn).1, by rw [ht]; simp, by rw [ht]; simp [List.getD], by rw [ht]; simp, hx, by rw [hl]; omega, ?_⟩
  · unfold idn
    rw [ht, takeWhile_app (name_chs hn) (fun c r e => by cases e; decide)]
  · rw [hl, ← List.drop_drop, hd]
    have : (34 : UInt8) :: (esc p.2 ++ 34 :: behind rest) = (34 :: (esc p.2 ++ [34])) ++ behind rest := by simp
    rw [this]
    have e2 : (esc p.2).length + 2 = ((34 : UInt8) :: (esc p.2 ++ [34])).length := by simp
    rw [e2, List.drop_left]
def mpair (m : List Pr) : List Pr := if metric m = [] then [] else [(nm, metric m)]
def st (s t : Str) (out : List Pr) : Prop := ∀ m, fIs m = true → fPrint m = s → ∃ dn rest, others m = dn ++ rest ∧ t = inner rest ++ [125] ∧ out = mpair m ++ dn
theorem others_mem {m : List Pr} {p : Pr} (h : p ∈ others m) : p ∈ m := by
  rw [others_oth] at h
  exact (List.mem_filter.1 h).1
theorem st_fact {s t : Str} {out : List Pr} (h : st s t out) (hne : t ≠ [125]) (ok : okParse s = true) :
    idn t ≠ 0 ∧ idn t < t.length ∧ t.getD (idn t) 0 = 61 ∧ qLen (t.drop (idn t + 1)) ≠ 0 ∧
      (t.drop (idn t + 1 + qLen (t.drop (idn t + 1))) = [125] ∨ ((t.drop (idn t + 1 + qLen (t.drop (idn t + 1)))).head? = some 44 ∧ t.drop (idn t + 1 + qLen (t.drop (idn t + 1))) ≠ [44, 125])) := by
  obtain ⟨m, hm, hp⟩ := (okParse_iff s).1 ok
  obtain ⟨dn, rest, ho, rfl, _⟩ := h m hm hp
  cases rest with
  | nil => exact absurd (by simp [inner, Lib.join_nil]) hne
  | cons p rest =>
    have hpm : p ∈ m := others_mem (by rw [ho]; simp)
    have hc := ((is_iff m).1 hm).2.1 p hpm
    obtain ⟨e1, e2, e3, e4, e5, e6, e7, e8⟩ := one_step (rest := rest) hc.1 hc.2
    rw [e1, e8]
    refine ⟨by omega, e3, e4, e7, ?_⟩
    unfold behind
    cases rest with
    | nil => left; rfl
    | cons q r =>
      right
      rw [if_neg (by simp)]
      refine ⟨rfl, fun e => ?_⟩
      have hl := inner_len (q :: r)
      have e2 : inner (q :: r) ++ [125] = [125] := (List.cons.inj e).2
      have e' := congrArg List.length e2
      simp only [List.length_append, List.length_cons, List.length_nil] at e' hl
      omega
theorem st_next {s t : Str} {out : List Pr} (h : st s t out) (hne : t ≠ [125]) :
    (t.drop (idn t + 1 + qLen (t.drop (idn t + 1))) = [125] → st s [125] (out ++ [(t.take (idn t), qText (t.drop (idn t + 1)))])) ∧
    ((t.drop (idn t + 1 + qLen (t.drop (idn t + 1)))).head? = some 44 → st s ((t.drop (idn t + 1 + qLen (t.drop (idn t + 1)))).drop 1) (out ++ [(t.take (idn t), qText (t.drop (idn t + 1)))])) := by
  have key : ∀ m, fIs m = true → fPrint m = s → ∃ dn p rest, others m = dn ++ p :: rest ∧ out = mpair m ++ dn ∧ (t.take (idn t), qText (t.drop (idn t + 1))) = p ∧ t.drop (idn t + 1 + qLen (t.drop (idn t + 1))) = behind rest := fun m hm hp => by
    obtain ⟨dn, rest, ho, rfl, hout⟩ := h m hm hp
    cases rest with
    | nil => exact absurd (by simp [inner, Lib.join_nil]) hne
    | cons p rest =>
      have hpm : p ∈ m := others_mem (by rw [ho]; simp)
      have hc := ((is_iff m).1 hm).2.1 p hpm
      obtain ⟨e1, e2, e3, e4, e5, e6, e7, e8⟩ := one_step (rest := rest) hc.1 hc.2
      rw [e1, e5, e6, e8]
      exact ⟨dn, p, rest, ho, hout, rfl, rfl⟩
  refine ⟨fun ht m hm hp => ?_, fun ht m hm hp => ?_⟩
  · obtain ⟨dn, p, rest, ho, hout, he, hb⟩ := key m hm hp
    rw [ht] at hb
    have hr : rest = [] := by
      by_cases hr : rest = []
      · exact hr
      · unfold behind at hb
        rw [if_neg hr] at hb
        cases hb
    subst hr
    exact ⟨dn ++ [p], [], by rw [ho]; simp, by simp [inner, Lib.join_nil], by rw [hout, he]; simp⟩
  · obtain ⟨dn, p, rest, ho, hout, he, hb⟩ := key m hm hp
    rw [hb] at ht ⊢
    have hr : rest ≠ [] := fun hr => by rw [hr] at ht; cases ht
    refine ⟨dn ++ [p], rest, by rw [ho]; simp, ?_, by rw [hout, he]; simp⟩
    unfold behind
    rw [if_neg hr]
    rfl
end Go.Proofs.YtcbjhfnlhpallaaGreatDoor
/- The reader's first part, and its end. -/
namespace Go.Proofs.YtcbjhfnlhpallaaGreatDoor
open Go.RowKit

theorem parts_perm {m : List Pr} (h : fIs m = true) : (mpair m ++ others m).Perm m := by
  have h' := (is_iff m).1 h
  unfold mpair metric others
  by_cases hn : fName (fGet m nm) = true
  · rw [if_pos hn, if_pos hn, if_neg (name_ne hn)]
    have hm := get_mem (name_ne hn)
    have hp := without_perm (rises_nodup h'.2.2) nm _ hm
    rw [← without_none] at hp
    exact hp
  · rw [if_neg hn, if_neg hn]
    exact List.Perm.refl _
theorem metric_chs {m : List Pr} : ∀ x ∈ metric m, nameCh x = true := by
  unfold metric
  split
  · rename_i h
    exact name_no h
  · intro x hx
    cases hx
theorem print_form {m : List Pr} (h : fIs m = true) : (fPrint m = metric m ∧ others m = [] ∧ metric m ≠ []) ∨ fPrint m = metric m ++ 123 :: (inner (others m) ++ [125]) := by
  unfold fPrint
  rw [if_pos h]
  by_cases e : metric m ≠ [] ∧ others m = []
  · rw [if_pos e]
    exact Or.inl ⟨rfl, e.2, e.1⟩
  · rw [if_neg e]
    exact Or.inr (by simp)
def hd (s : Str) : List Pr := if idn s = 0 then [] else [(nm, s.take (idn s))]
theorem idn_print {m : List Pr} (h : fIs m = true) : idn (fPrint m) = (metric m).length ∧ (fPrint m).take (metric m).length = metric m ∧ ((fPrint m).drop (metric m).length = [] ∧ others m = [] ∨ (fPrint m).drop (metric m).length = 123 :: (inner (others m) ++ [125])) := by
  unfold idn
  rcases print_form h with ⟨e, e2, _⟩ | e
  · rw [e]
    have := takeWhile_app (a := metric m) (b := []) metric_chs (fun c r e => by cases e)
    rw [List.append_nil] at this
    rw [this]
    exact ⟨rfl, by simp, Or.inl ⟨by simp, e2⟩⟩
  · rw [e, takeWhile_app metric_chs (fun c r e => by cases e; decide)]
    exact ⟨rfl, by simp, Or.inr (by simp)⟩
theorem hd_print {m : List Pr} (h : fIs m = true) : hd (fPrint m) = mpair m := by
  obtain ⟨e1, e2, _⟩ := idn_print h
  unfold hd mpair
  rw [e1, e2]
  by_cases hz : metric m = []
  · rw [if_pos hz, if_pos (by rw [hz]; rfl)]
  · rw [if_neg hz, if_neg (fun e => hz (List.length_eq_zero_iff.1 e))]
theorem st_first {s : Str} (ok : okParse s = true) : s.drop (idn s) = [] ∨ (s.drop (idn s)).head? = some 123 := by
  obtain ⟨m, hm, rfl⟩ := (okParse_iff s).1 ok
  obtain ⟨e1, _, e3⟩ := idn_print hm
  rw [e1]
  rcases e3 with ⟨e, _⟩ | e
  · exact Or.inl e
  · rw [e]; exact Or.inr rfl
theorem st_start {s : Str} (h : (s.drop (idn s)).head? = some 123) : st s ((s.drop (idn s)).drop 1) (hd s) := by
  intro m hm hp
  subst hp
  obtain ⟨e1, _, e3⟩ := idn_print hm
  rw [e1] at h ⊢
  rcases e3 with ⟨e, _⟩ | e
  · rw [e] at h; cases h
  · rw [e]
    exact ⟨[], others m, rfl, rfl, by rw [hd_print hm]; simp⟩
def fin (s : Str) (out : List Pr) : Prop := ∀ m, fIs m = true → fPrint m = s → out.Perm m
theorem fin_short {s : Str} (h : s.drop (idn s) = []) : fin s (hd s) := by
  intro m hm hp
  subst hp
  obtain ⟨e1, _, e3⟩ := idn_print hm
  rw [e1] at h
  rcases e3 with ⟨_, e⟩ | e
  · rw [hd_print hm]
    have := parts_perm hm
    rw [e, List.append_nil] at this
    exact this
  · rw [e] at h; cases h
theorem fin_loop {s : Str} {out : List Pr} (h : st s [125] out) : fin s out := by
  intro m hm hp
  obtain ⟨dn, rest, ho, ht, rfl⟩ := h m hm hp
  have hr : rest = [] := by
    have e := congrArg List.length ht
    have hl := inner_len rest
    simp only [List.length_append, List.length_cons, List.length_nil] at e
    exact List.length_eq_zero_iff.1 (by omega)
  subst hr
  rw [List.append_nil] at ho
  rw [← ho]
  exact parts_perm hm
theorem fin_yes {s : Str} {x : List Pr} (hi : fIs x = true) (hp : fPrint x = s) : okParse s = true ∧ parseL s = x := by
  subst hp
  have := parse_print hi
  exact ⟨this.1, this.2.2⟩
theorem fin_no {s : Str} {out x : List Pr} (h : fin s out) (hp : x.Perm out) (hs : sortedN x) (hn : ¬ (fIs x = true ∧ fPrint x = s)) : okParse s = false := by
  cases ok : okParse s with
  | false => rfl
  | true =>
    obtain ⟨m, hm, he⟩ := (okParse_iff s).1 ok
    have hpm := hp.trans (h m hm he)
    have hr := ((is_iff m).1 hm).2.2
    have hx : rises x := sorted_rises hs (((hpm.map (·.1)).nodup_iff).2 (rises_nodup hr))
    have : x = m := by rw [← srt_rises hx]; exact srt_of hpm.symm hr
    exact absurd ⟨by rw [this]; exact hm, by rw [this]; exact he⟩ hn
theorem parseL_no {s : Str} (h : okParse s = false) : parseL s = [] := by unfold parseL; rw [h]; rfl
end Go.Proofs.YtcbjhfnlhpallaaGreatDoor
/- The reference's Parse: as the program's. -/
namespace Go.Proofs.YtcbjhfnlhpallaaGreatDoor
open Go.RowKit

theorem nok {s : Str} (h : okParse s = true → False) : okParse s = false := by
  cases e : okParse s with
  | false => rfl
  | true => exact absurd e h
theorem ex_hd (s : Str) (k : Nat) : (⟨s.toArray⟩ : ByteArray).extract 0 k = ⟨(s.take k).toArray⟩ := by
  rw [Lib.extract_eq]
  simp

set_option maxRecDepth 200000 in
set_option maxHeartbeats 8000000 in
theorem refParse_any (s : Str) (w : World) (hs : s.length ≤ 1000) :
    Calls Tryz.prog 40 #[tx s] w fun e w' => ∃ v, e = .returned (.tuple #[v, .bool (okParse s)]) ∧ Own w' w.heap.size v (parseL s) ∧ Below w.heap.size w w' := by
  have hid := ident_any s w (by omega)
  have hKl := idn_le s
  rw [show (s.takeWhile nameCh).length = idn s from rfl] at hid
  have hx1 := ex_tail s (idn s)
  have hx0 := ex_hd s (idn s)
  have hTl : (s.drop (idn s)).length ≤ s.length := by simp
  have htk : (s.take (idn s)).length ≤ s.length := by simp; omega
  have HD : Hid (hd s = if idn s = 0 then [] else [(nm, s.take (idn s))]) := rfl
  obtain ⟨K, hK⟩ : ∃ K, idn s = K := ⟨_, rfl⟩
  rw [hK] at hid hKl hx1 hx0 hTl htk HD
  have HK : Hid _ := hK
  clear hK
  obtain ⟨T, hT⟩ : ∃ T, T = s.drop K := ⟨_, rfl⟩
  rw [← hT] at hx1 hTl
  have HT : Hid _ := hT
  clear hT
  obtain ⟨ta0, hta⟩ : ∃ t, t = s.take K := ⟨_, rfl⟩
  rw [← hta] at hx0 htk HD
  clear hta
  have y0 : (K : Int) ≤ s.length := by omega
  go_enter Tryz.func40, Tryz.ntmps40
  go_wp2_with fail
  refine hid.mono ?_
  rintro e w' ⟨rfl, rfl⟩
  clear hid
  by_cases hK0 : K = 0
  · subst hK0
    have zk : ¬ (0 : Int) < ((0 : Nat) : Int) := by decide
    obtain ⟨out, hoe⟩ : ∃ o : List Pr, o = [] := ⟨_, rfl⟩
    have HO : Hid (out = hd s) := by show _ = _; rw [hoe, HD.out, if_pos rfl]
    have ho : Own w w.heap.size (.slice none 0 0) out := by rw [hoe]; exact Own.none _ _
    have hb : Below w.heap.size w w := Below.refl _ _
    have HFit : Hid (Fit out) := fun q hq => by rw [hoe] at hq; cases hq
    have hol0 : out.length ≤ 1 := by rw [hoe]; simp
    have HOE : Hid _ := hoe
    clear HD hx0 hoe
    by_cases hT : T = []
    · have HF : Hid (fin s out) := by rw [HO.out]; exact fin_short (by rw [HK.out]; exact HT.out.symm.trans hT)
      have e0 : (T == []) = true := by simpa using hT
      have e0n : (T != []) = false := by rw [bne, e0]; rfl
      have hol : out.length ≤ 2000 := by omega
      clear hT HT HK HO
      have HN : Hid (out.length = 0) := by show _ = _; rw [HOE.out]; rfl
      have hps : Ps w none 0 out := by rw [HOE.out]; exact Ps.nil _ _
      go_wp2_with fail
      refine (refSorted_any none 0 0 out w (by omega) hps).mono ?_
      rintro e w5 ⟨v5, x, rfl, ho5, hp5, hs5, hb5⟩
      have B5 := Below.chain hb hb5
      have fX : Fit x := fun q hq => HFit.out q (hp5.mem_iff.1 hq)
      obtain ⟨a5, c5, rfl, hps5, _⟩ := own_slice6 ho5 (hp5.length_eq.trans HN.out)
      have hI := refIs_any a5 0 c5 x w5 (by omega) fX hps5
      have oX := ho5.base (b := w.heap.size) hb.size
      have HNO : Hid (¬ (fIs x = true ∧ fPrint x = s) → okParse s = false) := fun h => fin_no HF.out hp5 hs5 h
      clear ho5 hps ho hp5 hs5 hb5 HF HFit hb
      cases hi : fIs x with
      | false =>
        have HQ : Hid (okParse s = false) := HNO.out (fun h => by rw [hi] at h; cases h.1)
        rw [hi] at hI
        clear hi HNO
        go_wp2_with fail
        refine hI.mono ?_
        rintro e w6 ⟨rfl, hb6⟩
        go_wp2_with fail
        go_ret2
        exact ⟨_, by rw [HQ.out]; rfl, by rw [parseL_no HQ.out]; exact Own.none _ _, Below.chain B5 hb6⟩
      | true =>
        rw [hi] at hI
        have HI : Hid _ := hi
        clear hi
        go_wp2_with fail
        refine hI.mono ?_
        rintro e w6 ⟨rfl, hb6⟩
        have hP := refPrint_any a5 0 c5 x w6 (by omega) fX (hps5.later hb6)
        have B6 := Below.chain B5 hb6
        have oX6 := oX.later hb6
        clear hI oX hps5 B5 hb6
        by_cases hp : fPrint x = s
        · have HQ : Hid (okParse s = true ∧ parseL s = x) := fin_yes HI.out hp
          have hp' : (fPrint x == s) = true := by simpa using hp
          have hp2 : (fPrint x != s) = false := by rw [bne, hp']; rfl
          clear hp HNO HI
          generalize fPrint x = y at *
          go_wp2_with fail
          refine hP.mono ?_
          rintro e w7 ⟨rfl, hb7⟩
          go_wp2_with fail
          go_ret2
          exact ⟨_, by rw [HQ.out.1]; rfl, by rw [HQ.out.2]; exact oX6.later hb7, Below.chain B6 hb7⟩
        · have HQ : Hid (okParse s = false) := HNO.out (fun h => hp h.2)
          have hp' : (fPrint x == s) = false := by simpa using hp
          have hp2 : (fPrint x != s) = true := by rw [bne, hp']; rfl
          clear hp HNO HI
          generalize fPrint x = y at *
          go_wp2_with fail
          refine hP.mono ?_
          rintro e w7 ⟨rfl, hb7⟩
          go_wp2_with fail
          go_ret2
          exact ⟨_, by rw [HQ.out]; rfl, by rw [parseL_no HQ.out]; exact Own.none _ _, Below.chain B6 hb7⟩
    · have e0 : (T == []) = false := by simpa using hT
      have e0n : (T != []) = true := by rw [bne, e0]; rfl
      have hTp : 0 < T.length := List.length_pos_iff.2 hT
      have hb0 := ba_lt hTp
      have HH : Hid (T.head? = some ((⟨T.toArray⟩ : ByteArray)[0]'hb0)) := head_at hTp
      have hx3 := ex_tail T 1
      by_cases hk : (((⟨T.toArray⟩ : ByteArray)[0]'hb0).toNat : Int) = 123
      · have hk' : ((((⟨T.toArray⟩ : ByteArray)[0]'hb0).toNat : Int) == 123) = true := beq_iff_eq.2 hk
        have hkn : ((((⟨T.toArray⟩ : ByteArray)[0]'hb0).toNat : Int) != 123) = false := by rw [bne, hk']; rfl
        have HS0 : Hid (st s (T.drop 1) out) := by
          have := st_start (s := s) (by rw [HK.out, ← HT.out, HH.out, byte_eq (k := 123) (by decide) hk]; rfl)
          rw [HK.out, ← HT.out, ← HO.out] at this
          exact this
        have hd1 : (T.drop 1).length = T.length - 1 := by simp
        have htl : (T.drop 1).length ≤ s.length := by omega
        have hot : out.length + (T.drop 1).length ≤ s.length + 1 := by omega
        have hol : out.length ≤ 2000 := by omega
        have y1 : (1 : Int) ≤ T.length := by omega
        generalize T.drop 1 = T1 at *
        clear hk HH HT HK HO hT hd1
        go_wp2_with fail
        go_loopw [6, 4] (fun tv u wr => ∃ (t : Str) (v : Value) (out : List Pr), t.length ≤ s.length ∧ out.length + t.length ≤ s.length + 1 ∧ tv = tx t ∧ v = u ∧ Own wr w.heap.size v out ∧ Hid (Fit out) ∧ Hid (st s t out) ∧ Below w.heap.size w wr) (fun tv _ _ => strLen tv)
        case atStart => exact ⟨_, _, out, htl, hot, rfl, rfl, ho, HFit, HS0, hb⟩
        case round =>
          clear ho hb HFit HS0 htl hot hol
          obtain ⟨t, v, out, htl, hot, rfl, rfl, ho, HFit, HS, hb⟩ := hrel
          by_cases ht : t = [125]
          · have HF : Hid (fin s out) := by have := HS.out; rw [ht] at this; exact fin_loop this
            have ht' : (t == [125]) = true := by simpa using ht
            have ht2 : (t != [125]) = false := by rw [bne, ht']; rfl
            have hol : out.length ≤ 2000 := by omega
            clear ht HS
            obtain ⟨N, hN⟩ : ∃ N, out.length = N := ⟨_, rfl⟩
            rw [hN] at hol
            have HN : Hid _ := hN
            clear hN
            obtain ⟨ao, cap, rfl, hps, _⟩ := own_slice6 ho HN.out
            go_wp2_with fail
            refine (refSorted_any ao N cap out wr (by omega) hps).mono ?_
            rintro e w5 ⟨v5, x, rfl, ho5, hp5, hs5, hb5⟩
            have B5 := Below.chain hb hb5
            have fX : Fit x := fun q hq => HFit.out q (hp5.mem_iff.1 hq)
            obtain ⟨a5, c5, rfl, hps5, _⟩ := own_slice6 ho5 (hp5.length_eq.trans HN.out)
            have hI := refIs_any a5 N c5 x w5 (by omega) fX hps5
            have oX := ho5.base (b := w.heap.size) hb.size
            have HNO : Hid (¬ (fIs x = true ∧ fPrint x = s) → okParse s = false) := fun h => fin_no HF.out hp5 hs5 h
            clear ho5 hps ho hp5 hs5 hb5 HF HFit hb
            cases hi : fIs x with
            | false =>
              have HQ : Hid (okParse s = false) := HNO.out (fun h => by rw [hi] at h; cases h.1)
              rw [hi] at hI
              clear hi HNO
              go_wp2_with fail
              refine hI.mono ?_
              rintro e w6 ⟨rfl, hb6⟩
              go_wp2_with fail
              go_ret2
              exact ⟨_, by rw [HQ.out]; rfl, by rw [parseL_no HQ.out]; exact Own.none _ _, Below.chain B5 hb6⟩
            | true =>
              rw [hi] at hI
              have HI : Hid _ := hi
              clear hi
              go_wp2_with fail
              refine hI.mono ?_
              rintro e w6 ⟨rfl, hb6⟩
              have hP := refPrint_any a5 N c5 x w6 (by omega) fX (hps5.later hb6)
              have B6 := Below.chain B5 hb6
              have oX6 := oX.later hb6
              clear hI oX hps5 B5 hb6
              by_cases hp : fPrint x = s
              · have HQ : Hid (okParse s = true ∧ parseL s = x) := fin_yes HI.out hp
                have hp' : (fPrint x == s) = true := by simpa using hp
                have hp2 : (fPrint x != s) = false := by rw [bne, hp']; rfl
                clear hp HNO HI
                generalize fPrint x = y at *
                go_wp2_with fail
                refine hP.mono ?_
                rintro e w7 ⟨rfl, hb7⟩
                go_wp2_with fail
                go_ret2
                exact ⟨_, by rw [HQ.out.1]; rfl, by rw [HQ.out.2]; exact oX6.later hb7, Below.chain B6 hb7⟩
              · have HQ : Hid (okParse s = false) := HNO.out (fun h => hp h.2)
                have hp' : (fPrint x == s) = false := by simpa using hp
                have hp2 : (fPrint x != s) = true := by rw [bne, hp']; rfl
                clear hp HNO HI
                generalize fPrint x = y at *
                go_wp2_with fail
                refine hP.mono ?_
                rintro e w7 ⟨rfl, hb7⟩
                go_wp2_with fail
                go_ret2
                exact ⟨_, by rw [HQ.out]; rfl, by rw [parseL_no HQ.out]; exact Own.none _ _, Below.chain B6 hb7⟩
          · have ht' : (t == [125]) = false := by simpa using ht
            have ht2 : (t != [125]) = true := by rw [bne, ht']; rfl
            have HST : Hid _ := st_fact HS.out ht
            have HSN : Hid _ := st_next HS.out ht
            have hid := ident_any t wr (by omega)
            have hJl := idn_le t
            rw [show (t.takeWhile nameCh).length = idn t from rfl] at hid
            have hqa := fun (W : World) => quoted_any (t.drop (idn t + 1)) W (by simp; omega)
            have hqb := q_bound (t.drop (idn t + 1))
            have hx1 := ex_tail t (idn t + 1)
            have hx0 := ex_hd t (idn t)
            have hx2 := ex_tail t (idn t + 1 + qLen (t.drop (idn t + 1)))
            have hdl : (t.drop (idn t + 1)).length ≤ t.length - (idn t + 1) := by simp
            have hdl2 : (t.drop (idn t + 1 + qLen (t.drop (idn t + 1)))).length ≤ t.length - (idn t + 1 + qLen (t.drop (idn t + 1))) := by simp
            have htk : (t.take (idn t)).length ≤ t.length := by simp; omega
            generalize idn t = J at *
            generalize t.drop (J + 1) = r at *
            generalize qText r = qv at *
            generalize qLen r = qn at *
            generalize t.drop (J + 1 + qn) = t2 at *
            generalize t.take J = ta at *
            have hwr1 : IntKind.i64.wrap ((J : Int) + 1) = (J : Int) + 1 := by rw [IntKind.wrap_i64]; omega
            have hwr2 : IntKind.i64.wrap ((J : Int) + 1 + qn) = (J : Int) + 1 + qn := by rw [IntKind.wrap_i64]; omega
            have j3 : ((J : Int) + 1).toNat = J + 1 := by omega
            have j4 : ((J : Int) + 1 + qn).toNat = J + 1 + qn := by omega
            clear HS ht
            go_wp2_with fail
            refine hid.mono ?_
            rintro e w' ⟨rfl, rfl⟩
            clear hid
            by_cases hJ0 : J = 0
            · have HQ : Hid (okParse s = false) := nok fun ok => by have f := HST.out ok; exact f.1 hJ0
              have z : ((J : Int) == 0) = true := by rw [beq_iff_eq]; omega
              clear HST HSN hJ0
              go_wp2_with fail
              go_ret2
              exact ⟨_, by rw [HQ.out]; rfl, by rw [parseL_no HQ.out]; exact Own.none _ _, hb⟩
            · have z : ((J : Int) == 0) = false := by rw [beq_eq_false_iff_ne]; omega
              by_cases hJ1 : t.length ≤ J
              · have HQ : Hid (okParse s = false) := nok fun ok => by have f := HST.out ok; exact absurd f.2.1 (by omega)
                have z1 : (t.length : Int) ≤ J := by omega
                clear HST HSN hJ0
                go_wp2_with fail
                go_ret2
                exact ⟨_, by rw [HQ.out]; rfl, by rw [parseL_no HQ.out]; exact Own.none _ _, hb⟩
              · have z1 : ¬ (t.length : Int) ≤ J := by omega
                have hbJ := ba_lt (show J < t.length by omega)
                have HC : Hid (t.getD J 0 = (⟨t.toArray⟩ : ByteArray)[J]'hbJ) := by show _ = _; rw [List.getD_eq_getElem?_getD, List.getElem?_eq_getElem (show J < t.length by omega)]; rfl
                by_cases hc : (((⟨t.toArray⟩ : ByteArray)[J]'hbJ).toNat : Int) = 61
                · have hc' : ((((⟨t.toArray⟩ : ByteArray)[J]'hbJ).toNat : Int) == 61) = true := beq_iff_eq.2 hc
                  have hc2 : ((((⟨t.toArray⟩ : ByteArray)[J]'hbJ).toNat : Int) != 61) = false := by rw [bne, hc']; rfl
                  clear hc HC hJ0
                  have y1 : (J : Int) + 1 ≤ t.length := by omega
                  have y2 : ¬ ((J : Int) + 1 < 0) := by omega
                  go_wp2_with fail
                  refine (hqa _).mono ?_
                  rintro e w2 ⟨rfl, hb2⟩
                  have B2 := Below.chain hb hb2
                  have ho2 := ho.later hb2
                  clear hqa ho hb
                  by_cases hq0 : qn = 0
                  · have HQ : Hid (okParse s = false) := nok fun ok => by have f := HST.out ok; exact f.2.2.2.1 hq0
                    have zq : ((qn : Int) == 0) = true := by rw [beq_iff_eq]; omega
                    clear HST HSN hq0
                    go_wp2_with fail
                    go_ret2
                    exact ⟨_, by rw [HQ.out]; rfl, by rw [parseL_no HQ.out]; exact Own.none _ _, B2⟩
                  · have zq : ((qn : Int) == 0) = false := by rw [beq_eq_false_iff_ne]; omega
                    have y3 : (J : Int) + 1 + qn ≤ t.length := by omega
                    have y4 : ¬ ((J : Int) + 1 + qn < 0) := by omega
                    have y5 : (J : Int) ≤ t.length := by omega
                    have ho3 := ho2.later (bal (Below.refl _ _) (.cells #[tx ta, tx qv] 58))
                    have hb3 := bal B2 (.cells #[tx ta, tx qv] 58)
                    have HFit2 : Hid (Fit (out ++ [(ta, qv)])) := fun q hq => by
                      rcases List.mem_append.1 hq with h | h
                      · exact HFit.out q h
                      · rw [List.mem_singleton.1 h]; exact ⟨show ta.length ≤ _ by omega, show qv.length ≤ _ by omega⟩
                    clear ho2 B2
                    by_cases t0 : t2 = []
                    · have HQ : Hid (okParse s = false) := nok fun ok => by have f := HST.out ok; exact f.2.2.2.2.elim (fun h => by rw [t0] at h; cases h) (fun h => by rw [t0] at h; cases h.1)
                      have e0 : (t2 == []) = true := by simpa using t0
                      clear HST HSN t0 hq0
                      go_wp2_with (at_builtin; go_must (refine wp_app (w0 := w) rfl _ _ rfl w.heap.size _ out [(ta, qv)] (some ⟨w2.heap.size, 0, none⟩) 1 1 rfl rfl ho3 (Ps.one w2 (ta, qv)) hb3 (Nat.le_refl _) ?hN ?_))
                      case hN => omega
                      intro v7 w7 ho7 hb7
                      clear ho3 hb3
                      go_wp2_with fail
                      go_ret2
                      exact ⟨_, by rw [HQ.out]; rfl, by rw [parseL_no HQ.out]; exact Own.none _ _, hb7⟩
                    · have e0 : (t2 == []) = false := by simpa using t0
                      have hp2 : 0 < t2.length := List.length_pos_iff.2 t0
                      have hb0 := ba_lt hp2
                      have HH : Hid (t2.head? = some ((⟨t2.toArray⟩ : ByteArray)[0]'hb0)) := head_at hp2
                      have hx3 := ex_tail t2 1
                      by_cases t1 : t2 = [125]
                      · have HM : Hid (1 < t.length) := by show _ < _; omega
                        have HSX : Hid (st s [125] (out ++ [(ta, qv)])) := HSN.out.1 t1
                        subst t1
                        have hlen : (out ++ [(ta, qv)]).length + 1 ≤ s.length + 1 := by simp; omega
                        have HLN : Hid _ := hlen
                        clear HST HSN HH t0 hq0 hlen hdl2
                        go_wp2_with (at_builtin; go_must (refine wp_app (w0 := w) rfl _ _ rfl w.heap.size _ out [(ta, qv)] (some ⟨w2.heap.size, 0, none⟩) 1 1 rfl rfl ho3 (Ps.one w2 (ta, qv)) hb3 (Nat.le_refl _) ?hN ?_))
                        case hN => omega
                        intro v7 w7 ho7 hb7
                        clear ho3 hb3
                        go_wp2
                        go_roundw
                        case rel => exact ⟨[125], _, out ++ [(ta, qv)], by simp; omega, by simpa using HLN.out, rfl, rfl, ho7, HFit2, HSX, hb7⟩
                        case measure => rw [strLen_tx, strLen_tx]; exact HM.out
                      · have e1 : (t2 == [125]) = false := by simpa using t1
                        have e1n : (t2 != [125]) = true := by rw [bne, e1]; rfl
                        by_cases hk : (((⟨t2.toArray⟩ : ByteArray)[0]'hb0).toNat : Int) = 44
                        · have hk' : ((((⟨t2.toArray⟩ : ByteArray)[0]'hb0).toNat : Int) == 44) = true := beq_iff_eq.2 hk
                          have hkn : ((((⟨t2.toArray⟩ : ByteArray)[0]'hb0).toNat : Int) != 44) = false := by rw [bne, hk']; rfl
                          by_cases t3 : t2 = [44, 125]
                          · have HQ : Hid (okParse s = false) := nok fun ok => by have f := HST.out ok; exact f.2.2.2.2.elim (fun h => t1 h) (fun h => h.2 t3)
                            have e3 : (t2 == [44, 125]) = true := by simpa using t3
                            clear HST HSN t0 t1 t3 hk HH hq0
                            go_wp2_with (at_builtin; go_must (refine wp_app (w0 := w) rfl _ _ rfl w.heap.size _ out [(ta, qv)] (some ⟨w2.heap.size, 0, none⟩) 1 1 rfl rfl ho3 (Ps.one w2 (ta, qv)) hb3 (Nat.le_refl _) ?hN ?_))
                            case hN => omega
                            intro v7 w7 ho7 hb7
                            clear ho3 hb3
                            go_wp2_with fail
                            go_ret2
                            exact ⟨_, by rw [HQ.out]; rfl, by rw [parseL_no HQ.out]; exact Own.none _ _, hb7⟩
                          · have e3 : (t2 == [44, 125]) = false := by simpa using t3
                            have HSX : Hid (st s (t2.drop 1) (out ++ [(ta, qv)])) := HSN.out.2 (by rw [HH.out, byte_eq (k := 44) (by decide) hk]; rfl)
                            have hd1 : (t2.drop 1).length = t2.length - 1 := by simp
                            generalize t2.drop 1 = t4 at *
                            have g1 : t4.length ≤ s.length := by omega
                            have hlen : (out ++ [(ta, qv)]).length + t4.length ≤ s.length + 1 := by simp; omega
                            have HLN : Hid _ := hlen
                            have HM : Hid (t4.length < t.length) := by show _ < _; omega
                            have y6 : (1 : Int) ≤ t2.length := by omega
                            clear HST HSN HH t0 t1 t3 hk hq0 hlen hdl2 hd1
                            go_wp2_with (at_builtin; go_must (refine wp_app (w0 := w) rfl _ _ rfl w.heap.size _ out [(ta, qv)] (some ⟨w2.heap.size, 0, none⟩) 1 1 rfl rfl ho3 (Ps.one w2 (ta, qv)) hb3 (Nat.le_refl _) ?hN ?_))
                            case hN => omega
                            intro v7 w7 ho7 hb7
                            clear ho3 hb3
                            go_wp2
                            go_roundw
                            case rel => exact ⟨t4, _, out ++ [(ta, qv)], g1, HLN.out, rfl, rfl, ho7, HFit2, HSX, hb7⟩
                            case measure => rw [strLen_tx, strLen_tx]; exact HM.out
                        · have hk' : ((((⟨t2.toArray⟩ : ByteArray)[0]'hb0).toNat : Int) == 44) = false := beq_eq_false_iff_ne.2 hk
                          have hkn : ((((⟨t2.toArray⟩ : ByteArray)[0]'hb0).toNat : Int) != 44) = true := by rw [bne, hk']; rfl
                          have HQ : Hid (okParse s = false) := nok fun ok => by have f := HST.out ok; exact f.2.2.2.2.elim (fun h => t1 h) (fun h => by rw [HH.out] at h; exact byte_ne (k := 44) (by decide) hk (Option.some.inj h.1))
                          clear HST HSN t0 t1 hk HH hq0
                          go_wp2_with (at_builtin; go_must (refine wp_app (w0 := w) rfl _ _ rfl w.heap.size _ out [(ta, qv)] (some ⟨w2.heap.size, 0, none⟩) 1 1 rfl rfl ho3 (Ps.one w2 (ta, qv)) hb3 (Nat.le_refl _) ?hN ?_))
                          case hN => omega
                          intro v7 w7 ho7 hb7
                          clear ho3 hb3
                          go_wp2_with fail
                          go_ret2
                          exact ⟨_, by rw [HQ.out]; rfl, by rw [parseL_no HQ.out]; exact Own.none _ _, hb7⟩
                · have hc' : ((((⟨t.toArray⟩ : ByteArray)[J]'hbJ).toNat : Int) == 61) = false := beq_eq_false_iff_ne.2 hc
                  have hc2 : ((((⟨t.toArray⟩ : ByteArray)[J]'hbJ).toNat : Int) != 61) = true := by rw [bne, hc']; rfl
                  have HQ : Hid (okParse s = false) := nok fun ok => by have f := HST.out ok; rw [HC.out] at f; exact byte_ne (k := 61) (by decide) hc f.2.2.1
                  clear HST HSN hc HC hJ0
                  go_wp2_with fail
                  go_ret2
                  exact ⟨_, by rw [HQ.out]; rfl, by rw [parseL_no HQ.out]; exact Own.none _ _, hb⟩
      · have hk' : ((((⟨T.toArray⟩ : ByteArray)[0]'hb0).toNat : Int) == 123) = false := beq_eq_false_iff_ne.2 hk
        have hkn : ((((⟨T.toArray⟩ : ByteArray)[0]'hb0).toNat : Int) != 123) = true := by rw [bne, hk']; rfl
        have HQ : Hid (okParse s = false) := nok fun ok => by
          rcases st_first ok with h | h
          · rw [HK.out, ← HT.out] at h; exact hT h
          · rw [HK.out, ← HT.out, HH.out] at h; exact byte_ne (k := 123) (by decide) hk (Option.some.inj h)
        clear hk HH HT HK HO hT
        go_wp2_with fail
        go_ret2
        exact ⟨_, by rw [HQ.out]; rfl, by rw [parseL_no HQ.out]; exact Own.none _ _, hb⟩
  · have zk : (0 : Int) < K := by omega
    have HO : Hid ([(nm, ta0)] = hd s) := by show _ = _; rw [HD.out, if_neg hK0]
    have ho0 := (Own.none w w.heap.size).later (bal (Below.refl _ _) (.cells #[tx nm, tx ta0] 58))
    have hb0' := bal (Below.refl _ w) (.cells #[tx nm, tx ta0] 58)
    go_wp2_with (at_builtin; go_must (refine wp_app (w0 := w) rfl _ _ rfl w.heap.size _ [] [(nm, ta0)] (some ⟨w.heap.size, 0, none⟩) 1 1 rfl rfl ho0 (Ps.one w (nm, ta0)) hb0' (Nat.le_refl _) ?hN ?_))
    case hN => simp
    intro v W1 ho hb
    replace ho : Own W1 w.heap.size v [(nm, ta0)] := ho
    have HFit : Hid (Fit [(nm, ta0)]) := fun q hq => by rw [List.mem_singleton.1 hq]; exact ⟨show nm.length ≤ _ by decide, show ta0.length ≤ _ by omega⟩
    have hol0 : [(nm, ta0)].length ≤ 1 := by simp
    clear ho0 hb0' HD
    generalize [(nm, ta0)] = out at *
    by_cases hT : T = []
    · have HF : Hid (fin s out) := by rw [HO.out]; exact fin_short (by rw [HK.out]; exact HT.out.symm.trans hT)
      have e0 : (T == []) = true := by simpa using hT
      have e0n : (T != []) = false := by rw [bne, e0]; rfl
      have hol : out.length ≤ 2000 := by omega
      clear hT HT HK HO
      obtain ⟨N, hN⟩ : ∃ N, out.length = N := ⟨_, rfl⟩
      rw [hN] at hol
      have HN : Hid _ := hN
      clear hN
      obtain ⟨ao, cap, rfl, hps, _⟩ := own_slice6 ho HN.out
      go_wp2_with fail
      refine (refSorted_any ao N cap out W1 (by omega) hps).mono ?_
      rintro e w5 ⟨v5, x, rfl, ho5, hp5, hs5, hb5⟩
      have B5 := Below.chain hb hb5
      have fX : Fit x := fun q hq => HFit.out q (hp5.mem_iff.1 hq)
      obtain ⟨a5, c5, rfl, hps5, _⟩ := own_slice6 ho5 (hp5.length_eq.trans HN.out)
      have hI := refIs_any a5 N c5 x w5 (by omega) fX hps5
      have oX := ho5.base (b := w.heap.size) hb.size
      have HNO : Hid (¬ (fIs x = true ∧ fPrint x = s) → okParse s = false) := fun h => fin_no HF.out hp5 hs5 h
      clear ho5 hps ho hp5 hs5 hb5 HF HFit hb
      cases hi : fIs x with
      | false =>
        have HQ : Hid (okParse s = false) := HNO.out (fun h => by rw [hi] at h; cases h.1)
        rw [hi] at hI
        clear hi HNO
        go_wp2_with fail
        refine hI.mono ?_
        rintro e w6 ⟨rfl, hb6⟩
        go_wp2_with fail
        go_ret2
        exact ⟨_, by rw [HQ.out]; rfl, by rw [parseL_no HQ.out]; exact Own.none _ _, Below.chain B5 hb6⟩
      | true =>
        rw [hi] at hI
        have HI : Hid _ := hi
        clear hi
        go_wp2_with fail
        refine hI.mono ?_
        rintro e w6 ⟨rfl, hb6⟩
        have hP := refPrint_any a5 N c5 x w6 (by omega) fX (hps5.later hb6)
        have B6 := Below.chain B5 hb6
        have oX6 := oX.later hb6
        clear hI oX hps5 B5 hb6
        by_cases hp : fPrint x = s
        · have HQ : Hid (okParse s = true ∧ parseL s = x) := fin_yes HI.out hp
          have hp' : (fPrint x == s) = true := by simpa using hp
          have hp2 : (fPrint x != s) = false := by rw [bne, hp']; rfl
          clear hp HNO HI
          generalize fPrint x = y at *
          go_wp2_with fail
          refine hP.mono ?_
          rintro e w7 ⟨rfl, hb7⟩
          go_wp2_with fail
          go_ret2
          exact ⟨_, by rw [HQ.out.1]; rfl, by rw [HQ.out.2]; exact oX6.later hb7, Below.chain B6 hb7⟩
        · have HQ : Hid (okParse s = false) := HNO.out (fun h => hp h.2)
          have hp' : (fPrint x == s) = false := by simpa using hp
          have hp2 : (fPrint x != s) = true := by rw [bne, hp']; rfl
          clear hp HNO HI
          generalize fPrint x = y at *
          go_wp2_with fail
          refine hP.mono ?_
          rintro e w7 ⟨rfl, hb7⟩
          go_wp2_with fail
          go_ret2
          exact ⟨_, by rw [HQ.out]; rfl, by rw [parseL_no HQ.out]; exact Own.none _ _, Below.chain B6 hb7⟩
    · have e0 : (T == []) = false := by simpa using hT
      have e0n : (T != []) = true := by rw [bne, e0]; rfl
      have hTp : 0 < T.length := List.length_pos_iff.2 hT
      have hb0 := ba_lt hTp
      have HH : Hid (T.head? = some ((⟨T.toArray⟩ : ByteArray)[0]'hb0)) := head_at hTp
      have hx3 := ex_tail T 1
      by_cases hk : (((⟨T.toArray⟩ : ByteArray)[0]'hb0).toNat : Int) = 123
      · have hk' : ((((⟨T.toArray⟩ : ByteArray)[0]'hb0).toNat : Int) == 123) = true := beq_iff_eq.2 hk
        have hkn : ((((⟨T.toArray⟩ : ByteArray)[0]'hb0).toNat : Int) != 123) = false := by rw [bne, hk']; rfl
        have HS0 : Hid (st s (T.drop 1) out) := by
          have := st_start (s := s) (by rw [HK.out, ← HT.out, HH.out, byte_eq (k := 123) (by decide) hk]; rfl)
          rw [HK.out, ← HT.out, ← HO.out] at this
          exact this
        have hd1 : (T.drop 1).length = T.length - 1 := by simp
        have htl : (T.drop 1).length ≤ s.length := by omega
        have hot : out.length + (T.drop 1).length ≤ s.length + 1 := by omega
        have hol : out.length ≤ 2000 := by omega
        have y1 : (1 : Int) ≤ T.length := by omega
        generalize T.drop 1 = T1 at *
        clear hk HH HT HK HO hT hd1
        go_wp2_with fail
        go_loopw [6, 4] (fun tv u wr => ∃ (t : Str) (v : Value) (out : List Pr), t.length ≤ s.length ∧ out.length + t.length ≤ s.length + 1 ∧ tv = tx t ∧ v = u ∧ Own wr w.heap.size v out ∧ Hid (Fit out) ∧ Hid (st s t out) ∧ Below w.heap.size w wr) (fun tv _ _ => strLen tv)
        case atStart => exact ⟨_, _, out, htl, hot, rfl, rfl, ho, HFit, HS0, hb⟩
        case round =>
          clear ho hb HFit HS0 htl hot hol
          obtain ⟨t, v, out, htl, hot, rfl, rfl, ho, HFit, HS, hb⟩ := hrel
          by_cases ht : t = [125]
          · have HF : Hid (fin s out) := by have := HS.out; rw [ht] at this; exact fin_loop this
            have ht' : (t == [125]) = true := by simpa using ht
            have ht2 : (t != [125]) = false := by rw [bne, ht']; rfl
            have hol : out.length ≤ 2000 := by omega
            clear ht HS
            obtain ⟨N, hN⟩ : ∃ N, out.length = N := ⟨_, rfl⟩
            rw [hN] at hol
            have HN : Hid _ := hN
            clear hN
            obtain ⟨ao, cap, rfl, hps, _⟩ := own_slice6 ho HN.out
            go_wp2_with fail
            refine (refSorted_any ao N cap out wr (by omega) hps).mono ?_
            rintro e w5 ⟨v5, x, rfl, ho5, hp5, hs5, hb5⟩
            have B5 := Below.chain hb hb5
            have fX : Fit x := fun q hq => HFit.out q (hp5.mem_iff.1 hq)
            obtain ⟨a5, c5, rfl, hps5, _⟩ := own_slice6 ho5 (hp5.length_eq.trans HN.out)
            have hI := refIs_any a5 N c5 x w5 (by omega) fX hps5
            have oX := ho5.base (b := w.heap.size) hb.size
            have HNO : Hid (¬ (fIs x = true ∧ fPrint x = s) → okParse s = false) := fun h => fin_no HF.out hp5 hs5 h
            clear ho5 hps ho hp5 hs5 hb5 HF HFit hb
            cases hi : fIs x with
            | false =>
              have HQ : Hid (okParse s = false) := HNO.out (fun h => by rw [hi] at h; cases h.1)
              rw [hi] at hI
              clear hi HNO
              go_wp2_with fail
              refine hI.mono ?_
              rintro e w6 ⟨rfl, hb6⟩
              go_wp2_with fail
              go_ret2
              exact ⟨_, by rw [HQ.out]; rfl, by rw [parseL_no HQ.out]; exact Own.none _ _, Below.chain B5 hb6⟩
            | true =>
              rw [hi] at hI
              have HI : Hid _ := hi
              clear hi
              go_wp2_with fail
              refine hI.mono ?_
              rintro e w6 ⟨rfl, hb6⟩
              have hP := refPrint_any a5 N c5 x w6 (by omega) fX (hps5.later hb6)
              have B6 := Below.chain B5 hb6
              have oX6 := oX.later hb6
              clear hI oX hps5 B5 hb6
              by_cases hp : fPrint x = s
              · have HQ : Hid (okParse s = true ∧ parseL s = x) := fin_yes HI.out hp
                have hp' : (fPrint x == s) = true := by simpa using hp
                have hp2 : (fPrint x != s) = false := by rw [bne, hp']; rfl
                clear hp HNO HI
                generalize fPrint x = y at *
                go_wp2_with fail
                refine hP.mono ?_
                rintro e w7 ⟨rfl, hb7⟩
                go_wp2_with fail
                go_ret2
                exact ⟨_, by rw [HQ.out.1]; rfl, by rw [HQ.out.2]; exact oX6.later hb7, Below.chain B6 hb7⟩
              · have HQ : Hid (okParse s = false) := HNO.out (fun h => hp h.2)
                have hp' : (fPrint x == s) = false := by simpa using hp
                have hp2 : (fPrint x != s) = true := by rw [bne, hp']; rfl
                clear hp HNO HI
                generalize fPrint x = y at *
                go_wp2_with fail
                refine hP.mono ?_
                rintro e w7 ⟨rfl, hb7⟩
                go_wp2_with fail
                go_ret2
                exact ⟨_, by rw [HQ.out]; rfl, by rw [parseL_no HQ.out]; exact Own.none _ _, Below.chain B6 hb7⟩
          · have ht' : (t == [125]) = false := by simpa using ht
            have ht2 : (t != [125]) = true := by rw [bne, ht']; rfl
            have HST : Hid _ := st_fact HS.out ht
            have HSN : Hid _ := st_next HS.out ht
            have hid := ident_any t wr (by omega)
            have hJl := idn_le t
            rw [show (t.takeWhile nameCh).length = idn t from rfl] at hid
            have hqa := fun (W : World) => quoted_any (t.drop (idn t + 1)) W (by simp; omega)
            have hqb := q_bound (t.drop (idn t + 1))
            have hx1 := ex_tail t (idn t + 1)
            have hx0 := ex_hd t (idn t)
            have hx2 := ex_tail t (idn t + 1 + qLen (t.drop (idn t + 1)))
            have hdl : (t.drop (idn t + 1)).length ≤ t.length - (idn t + 1) := by simp
            have hdl2 : (t.drop (idn t + 1 + qLen (t.drop (idn t + 1)))).length ≤ t.length - (idn t + 1 + qLen (t.drop (idn t + 1))) := by simp
            have htk : (t.take (idn t)).length ≤ t.length := by simp; omega
            generalize idn t = J at *
            generalize t.drop (J + 1) = r at *
            generalize qText r = qv at *
            generalize qLen r = qn at *
            generalize t.drop (J + 1 + qn) = t2 at *
            generalize t.take J = ta at *
            have hwr1 : IntKind.i64.wrap ((J : Int) + 1) = (J : Int) + 1 := by rw [IntKind.wrap_i64]; omega
            have hwr2 : IntKind.i64.wrap ((J : Int) + 1 + qn) = (J : Int) + 1 + qn := by rw [IntKind.wrap_i64]; omega
            have j3 : ((J : Int) + 1).toNat = J + 1 := by omega
            have j4 : ((J : Int) + 1 + qn).toNat = J + 1 + qn := by omega
            clear HS ht
            go_wp2_with fail
            refine hid.mono ?_
            rintro e w' ⟨rfl, rfl⟩
            clear hid
            by_cases hJ0 : J = 0
            · have HQ : Hid (okParse s = false) := nok fun ok => by have f := HST.out ok; exact f.1 hJ0
              have z : ((J : Int) == 0) = true := by rw [beq_iff_eq]; omega
              clear HST HSN hJ0
              go_wp2_with fail
              go_ret2
              exact ⟨_, by rw [HQ.out]; rfl, by rw [parseL_no HQ.out]; exact Own.none _ _, hb⟩
            · have z : ((J : Int) == 0) = false := by rw [beq_eq_false_iff_ne]; omega
              by_cases hJ1 : t.length ≤ J
              · have HQ : Hid (okParse s = false) := nok fun ok => by have f := HST.out ok; exact absurd f.2.1 (by omega)
                have z1 : (t.length : Int) ≤ J := by omega
                clear HST HSN hJ0
                go_wp2_with fail
                go_ret2
                exact ⟨_, by rw [HQ.out]; rfl, by rw [parseL_no HQ.out]; exact Own.none _ _, hb⟩
              · have z1 : ¬ (t.length : Int) ≤ J := by omega
                have hbJ := ba_lt (show J < t.length by omega)
                have HC : Hid (t.getD J 0 = (⟨t.toArray⟩ : ByteArray)[J]'hbJ) := by show _ = _; rw [List.getD_eq_getElem?_getD, List.getElem?_eq_getElem (show J < t.length by omega)]; rfl
                by_cases hc : (((⟨t.toArray⟩ : ByteArray)[J]'hbJ).toNat : Int) = 61
                · have hc' : ((((⟨t.toArray⟩ : ByteArray)[J]'hbJ).toNat : Int) == 61) = true := beq_iff_eq.2 hc
                  have hc2 : ((((⟨t.toArray⟩ : ByteArray)[J]'hbJ).toNat : Int) != 61) = false := by rw [bne, hc']; rfl
                  clear hc HC hJ0
                  have y1 : (J : Int) + 1 ≤ t.length := by omega
                  have y2 : ¬ ((J : Int) + 1 < 0) := by omega
                  go_wp2_with fail
                  refine (hqa _).mono ?_
                  rintro e w2 ⟨rfl, hb2⟩
                  have B2 := Below.chain hb hb2
                  have ho2 := ho.later hb2
                  clear hqa ho hb
                  by_cases hq0 : qn = 0
                  · have HQ : Hid (okParse s = false) := nok fun ok => by have f := HST.out ok; exact f.2.2.2.1 hq0
                    have zq : ((qn : Int) == 0) = true := by rw [beq_iff_eq]; omega
                    clear HST HSN hq0
                    go_wp2_with fail
                    go_ret2
                    exact ⟨_, by rw [HQ.out]; rfl, by rw [parseL_no HQ.out]; exact Own.none _ _, B2⟩
                  · have zq : ((qn : Int) == 0) = false := by rw [beq_eq_false_iff_ne]; omega
                    have y3 : (J : Int) + 1 + qn ≤ t.length := by omega
                    have y4 : ¬ ((J : Int) + 1 + qn < 0) := by omega
                    have y5 : (J : Int) ≤ t.length := by omega
                    have ho3 := ho2.later (bal (Below.refl _ _) (.cells #[tx ta, tx qv] 58))
                    have hb3 := bal B2 (.cells #[tx ta, tx qv] 58)
                    have HFit2 : Hid (Fit (out ++ [(ta, qv)])) := fun q hq => by
                      rcases List.mem_append.1 hq with h | h
                      · exact HFit.out q h
                      · rw [List.mem_singleton.1 h]; exact ⟨show ta.length ≤ _ by omega, show qv.length ≤ _ by omega⟩
                    clear ho2 B2
                    by_cases t0 : t2 = []
                    · have HQ : Hid (okParse s = false) := nok fun ok => by have f := HST.out ok; exact f.2.2.2.2.elim (fun h => by rw [t0] at h; cases h) (fun h => by rw [t0] at h; cases h.1)
                      have e0 : (t2 == []) = true := by simpa using t0
                      clear HST HSN t0 hq0
                      go_wp2_with (at_builtin; go_must (refine wp_app (w0 := w) rfl _ _ rfl w.heap.size _ out [(ta, qv)] (some ⟨w2.heap.size, 0, none⟩) 1 1 rfl rfl ho3 (Ps.one w2 (ta, qv)) hb3 (Nat.le_refl _) ?hN ?_))
                      case hN => omega
                      intro v7 w7 ho7 hb7
                      clear ho3 hb3
                      go_wp2_with fail
                      go_ret2
                      exact ⟨_, by rw [HQ.out]; rfl, by rw [parseL_no HQ.out]; exact Own.none _ _, hb7⟩
                    · have e0 : (t2 == []) = false := by simpa using t0
                      have hp2 : 0 < t2.length := List.length_pos_iff.2 t0
                      have hb0 := ba_lt hp2
                      have HH : Hid (t2.head? = some ((⟨t2.toArray⟩ : ByteArray)[0]'hb0)) := head_at hp2
                      have hx3 := ex_tail t2 1
                      by_cases t1 : t2 = [125]
                      · have HM : Hid (1 < t.length) := by show _ < _; omega
                        have HSX : Hid (st s [125] (out ++ [(ta, qv)])) := HSN.out.1 t1
                        subst t1
                        have hlen : (out ++ [(ta, qv)]).length + 1 ≤ s.length + 1 := by simp; omega
                        have HLN : Hid _ := hlen
                        clear HST HSN HH t0 hq0 hlen hdl2
                        go_wp2_with (at_builtin; go_must (refine wp_app (w0 := w) rfl _ _ rfl w.heap.size _ out [(ta, qv)] (some ⟨w2.heap.size, 0, none⟩) 1 1 rfl rfl ho3 (Ps.one w2 (ta, qv)) hb3 (Nat.le_refl _) ?hN ?_))
                        case hN => omega
                        intro v7 w7 ho7 hb7
                        clear ho3 hb3
                        go_wp2
                        go_roundw
                        case rel => exact ⟨[125], _, out ++ [(ta, qv)], by simp; omega, by simpa using HLN.out, rfl, rfl, ho7, HFit2, HSX, hb7⟩
                        case measure => rw [strLen_tx, strLen_tx]; exact HM.out
                      · have e1 : (t2 == [125]) = false := by simpa using t1
                        have e1n : (t2 != [125]) = true := by rw [bne, e1]; rfl
                        by_cases hk : (((⟨t2.toArray⟩ : ByteArray)[0]'hb0).toNat : Int) = 44
                        · have hk' : ((((⟨t2.toArray⟩ : ByteArray)[0]'hb0).toNat : Int) == 44) = true := beq_iff_eq.2 hk
                          have hkn : ((((⟨t2.toArray⟩ : ByteArray)[0]'hb0).toNat : Int) != 44) = false := by rw [bne, hk']; rfl
                          by_cases t3 : t2 = [44, 125]
                          · have HQ : Hid (okParse s = false) := nok fun ok => by have f := HST.out ok; exact f.2.2.2.2.elim (fun h => t1 h) (fun h => h.2 t3)
                            have e3 : (t2 == [44, 125]) = true := by simpa using t3
                            clear HST HSN t0 t1 t3 hk HH hq0
                            go_wp2_with (at_builtin; go_must (refine wp_app (w0 := w) rfl _ _ rfl w.heap.size _ out [(ta, qv)] (some ⟨w2.heap.size, 0, none⟩) 1 1 rfl rfl ho3 (Ps.one w2 (ta, qv)) hb3 (Nat.le_refl _) ?hN ?_))
                            case hN => omega
                            intro v7 w7 ho7 hb7
                            clear ho3 hb3
                            go_wp2_with fail
                            go_ret2
                            exact ⟨_, by rw [HQ.out]; rfl, by rw [parseL_no HQ.out]; exact Own.none _ _, hb7⟩
                          · have e3 : (t2 == [44, 125]) = false := by simpa using t3
                            have HSX : Hid (st s (t2.drop 1) (out ++ [(ta, qv)])) := HSN.out.2 (by rw [HH.out, byte_eq (k := 44) (by decide) hk]; rfl)
                            have hd1 : (t2.drop 1).length = t2.length - 1 := by simp
                            generalize t2.drop 1 = t4 at *
                            have g1 : t4.length ≤ s.length := by omega
                            have hlen : (out ++ [(ta, qv)]).length + t4.length ≤ s.length + 1 := by simp; omega
                            have HLN : Hid _ := hlen
                            have HM : Hid (t4.length < t.length) := by show _ < _; omega
                            have y6 : (1 : Int) ≤ t2.length := by omega
                            clear HST HSN HH t0 t1 t3 hk hq0 hlen hdl2 hd1
                            go_wp2_with (at_builtin; go_must (refine wp_app (w0 := w) rfl _ _ rfl w.heap.size _ out [(ta, qv)] (some ⟨w2.heap.size, 0, none⟩) 1 1 rfl rfl ho3 (Ps.one w2 (ta, qv)) hb3 (Nat.le_refl _) ?hN ?_))
                            case hN => omega
                            intro v7 w7 ho7 hb7
                            clear ho3 hb3
                            go_wp2
                            go_roundw
                            case rel => exact ⟨t4, _, out ++ [(ta, qv)], g1, HLN.out, rfl, rfl, ho7, HFit2, HSX, hb7⟩
                            case measure => rw [strLen_tx, strLen_tx]; exact HM.out
                        · have hk' : ((((⟨t2.toArray⟩ : ByteArray)[0]'hb0).toNat : Int) == 44) = false := beq_eq_false_iff_ne.2 hk
                          have hkn : ((((⟨t2.toArray⟩ : ByteArray)[0]'hb0).toNat : Int) != 44) = true := by rw [bne, hk']; rfl
                          have HQ : Hid (okParse s = false) := nok fun ok => by have f := HST.out ok; exact f.2.2.2.2.elim (fun h => t1 h) (fun h => by rw [HH.out] at h; exact byte_ne (k := 44) (by decide) hk (Option.some.inj h.1))
                          clear HST HSN t0 t1 hk HH hq0
                          go_wp2_with (at_builtin; go_must (refine wp_app (w0 := w) rfl _ _ rfl w.heap.size _ out [(ta, qv)] (some ⟨w2.heap.size, 0, none⟩) 1 1 rfl rfl ho3 (Ps.one w2 (ta, qv)) hb3 (Nat.le_refl _) ?hN ?_))
                          case hN => omega
                          intro v7 w7 ho7 hb7
                          clear ho3 hb3
                          go_wp2_with fail
                          go_ret2
                          exact ⟨_, by rw [HQ.out]; rfl, by rw [parseL_no HQ.out]; exact Own.none _ _, hb7⟩
                · have hc' : ((((⟨t.toArray⟩ : ByteArray)[J]'hbJ).toNat : Int) == 61) = false := beq_eq_false_iff_ne.2 hc
                  have hc2 : ((((⟨t.toArray⟩ : ByteArray)[J]'hbJ).toNat : Int) != 61) = true := by rw [bne, hc']; rfl
                  have HQ : Hid (okParse s = false) := nok fun ok => by have f := HST.out ok; rw [HC.out] at f; exact byte_ne (k := 61) (by decide) hc f.2.2.1
                  clear HST HSN hc HC hJ0
                  go_wp2_with fail
                  go_ret2
                  exact ⟨_, by rw [HQ.out]; rfl, by rw [parseL_no HQ.out]; exact Own.none _ _, hb⟩
      · have hk' : ((((⟨T.toArray⟩ : ByteArray)[0]'hb0).toNat : Int) == 123) = false := beq_eq_false_iff_ne.2 hk
        have hkn : ((((⟨T.toArray⟩ : ByteArray)[0]'hb0).toNat : Int) != 123) = true := by rw [bne, hk']; rfl
        have HQ : Hid (okParse s = false) := nok fun ok => by
          rcases st_first ok with h | h
          · rw [HK.out, ← HT.out] at h; exact hT h
          · rw [HK.out, ← HT.out, HH.out] at h; exact byte_ne (k := 123) (by decide) hk (Option.some.inj h)
        clear hk HH HT HK HO hT
        go_wp2_with fail
        go_ret2
        exact ⟨_, by rw [HQ.out]; rfl, by rw [parseL_no HQ.out]; exact Own.none _ _, hb⟩
end Go.Proofs.YtcbjhfnlhpallaaGreatDoor
