/- Texts that the others lean on. -/
import Derived.Test.YtjgckfcocmhnhaaGreatDoorKMT
namespace Go.Proofs.YtjgckfcocmhnhaaGreatDoor.Sr
open Go.RowKit Rn
theorem gone_any (lab : Value) (rb : Nat) (l : List Smp) (t : Int) (w : World) (h : St w rb l 100 t) :
  Calls Tryz.prog 29 #[.agg #[lab, .pointer (some ⟨rb, 0, none⟩)]] w fun e w' => e = .returned (.bool l.isEmpty) ∧ Below w.heap.size w w' := by
 have hb0 := bal (Below.refl _ w) (.cells #[lab, .pointer (some ⟨rb, 0, none⟩)] 74)
 have hlen := Rn.len_any rb l 100 t _ (h.later hb0).m
 clear h
 cases l with
 | nil =>
  go_enter Tryz.func29, Tryz.ntmps29
  go_wp2_with fail
  refine hlen.mono ?_
  rintro e w1 ⟨rfl, rfl⟩
  go_wp2
  go_ret
  exact ⟨rfl, hb0⟩
 | cons s r =>
  have hd : decide ((((s :: r).length : Nat) : Int) = 0) = false := decide_eq_false (by rw [List.length_cons]; omega)
  have hd2 : ((((s :: r).length : Nat) : Int) == 0) = false := by rw [beq_eq_false_iff_ne]; rw [List.length_cons]; omega
  generalize (s :: r).length = m at *
  go_enter Tryz.func29, Tryz.ntmps29
  go_wp2_with fail
  refine hlen.mono ?_
  rintro e w1 ⟨rfl, rfl⟩
  go_wp2
  go_ret
  exact ⟨rfl, hb0⟩
/-- The first that is gone. -/
def idxG (rs : List SRec) : Nat := rs.findIdx fun r => r.l.isEmpty
def idxV (rs : List SRec) (n : Nat) : Int := if idxG rs < n then ((idxG rs : Nat) : Int) else -1
def kept (rs : List SRec) : List SRec := rs.filter fun r => !r.l.isEmpty
theorem getD_mem {rs : List SRec} {j : Nat} (h : j < rs.length) : rs.getD j r0 ∈ rs := by
 rw [List.getD_eq_getElem?_getD, List.getElem?_eq_getElem h]
 exact List.getElem_mem h
theorem idx_eq {rs : List SRec} {j : Nat} (hj : j < rs.length) (h1 : ∀ i, i < j → (rs.getD i r0).l.isEmpty = false) (h2 : (rs.getD j r0).l.isEmpty = true) : idxG rs = j := by
 unfold idxG
 rw [List.findIdx_eq hj]
 refine ⟨?_, fun i hi => ?_⟩
 ·
  rw [List.getD_eq_getElem?_getD, List.getElem?_eq_getElem hj] at h2
  exact h2
 ·
  have := h1 i hi
  rw [List.getD_eq_getElem?_getD, List.getElem?_eq_getElem (by omega)] at this
  exact this
set_option maxHeartbeats 4000000 in
theorem index_any (ao : Option Addr) (n cap : Nat) (rs : List SRec) (w : World) (hn : n ≤ 1000) (ho : Os w ao n rs) (hs : ∀ r ∈ rs, St w r.ring r.l 100 r.t) :
  Calls Tryz.prog 61 #[.slice ao n cap, .func (.func 29) #[] #[]] w fun e w' => e = .returned (.int .i64 (idxV rs n)) ∧ Below w.heap.size w w' := by
 have HN : Hid (rs.length = n) := ho.1
 have HO : Hid (∀ W, Below w.heap.size w W → Os W ao n rs) := fun W hW => ho.later hW
 have HS : Hid (∀ W, Below w.heap.size w W → ∀ j, j < n → St W (rs.getD j r0).ring (rs.getD j r0).l 100 (rs.getD j r0).t) := fun W hW j hj => (hs _ (getD_mem (by rw [HN.out]; exact hj))).later hW
 clear ho hs
 go_enter Tryz.func61, Tryz.ntmps61
 go_wp2
 go_loopw [8] (fun i wr => ∃ j : Nat, j ≤ n ∧ i = .int .i64 j ∧ Hid (∀ i, i < j → (rs.getD i r0).l.isEmpty = false) ∧ Below w.heap.size w wr) (fun i _ => n - (intOf i).toNat)
 case atStart => exact ⟨0, by omega, rfl, fun i hi => absurd hi (Nat.not_lt_zero _), Below.refl _ _⟩
 case round =>
  obtain ⟨j, hj, rfl, HI, hb⟩ := hrel
  by_cases hlt : j < n
  ·
   have hd : decide ((j : Int) < (n : Int)) = true := decide_eq_true (by omega)
   obtain ⟨-, hoc⟩ := HO.out wr hb
   obtain ⟨g, rfl, -, hc⟩ := hoc (by omega)
   obtain ⟨c0, c1⟩ := hc j hlt
   have hst := HS.out wr hb j hlt
   have HE1 : Hid ((rs.getD j r0).l.isEmpty = true → idxG rs = j) := fun h => idx_eq (by rw [HN.out]; exact hlt) HI.out h
   have HE2 : Hid ((rs.getD j r0).l.isEmpty = false → ∀ i, i < j + 1 → (rs.getD i r0).l.isEmpty = false) := fun h i hi => by
    rcases Nat.lt_or_ge i j with h1 | h1
    ·
     exact HI.out i h1
    ·
     obtain rfl : i = j := by omega
     exact h
   clear hc hoc
   generalize rs.getD j r0 = y at *
   obtain ⟨lab, rb, sy, ly, ty⟩ := y
   dsimp only at *
   have hgone := gone_any lab rb ly ty wr hst
   generalize ly.isEmpty = z at *
   cases z with
   | true =>
    have HE3 : Hid (idxV rs n = (j : Int)) := by show _ = _; unfold idxV; rw [HE1.out rfl, if_pos hlt]
    go_wp2_with fail
    refine hgone.mono ?_
    rintro e w1 ⟨rfl, hb1⟩
    go_wp2
    go_ret
    exact ⟨by rw [HE3.out]; rfl, Below.chain hb hb1⟩
   | false =>
    have HE3 := HE2.out rfl
    have HE4 : Hid _ := HE3
    clear HE3
    go_wp2_with fail
    refine hgone.mono ?_
    rintro e w1 ⟨rfl, hb1⟩
    go_wp2
    go_roundw
    case rel => exact ⟨j + 1, by omega, by go_num, HE4.out, Below.chain hb hb1⟩
    case measure => simp [intOf]; omega
  ·
   have hd : decide ((j : Int) < (n : Int)) = false := decide_eq_false (by omega)
   obtain rfl : j = n := by omega
   have HE3 : Hid (idxV rs j = -1) := by
    show _ = _
    unfold idxV
    rw [if_neg]
    intro h
    have h1 : idxG rs < rs.length := by rw [HN.out]; exact h
    have h2 := List.findIdx_getElem (w := h1)
    have h3 := HI.out _ h
    rw [List.getD_eq_getElem?_getD, List.getElem?_eq_getElem h1] at h3
    have h4 : (rs[idxG rs]).l.isEmpty = true := h2
    rw [Option.getD_some, h4] at h3
    cases h3
   go_wp2
   go_ret
   exact ⟨by rw [HE3.out]; rfl, hb⟩
end Go.Proofs.YtjgckfcocmhnhaaGreatDoor.Sr
namespace Go.Proofs.YtjgckfcocmhnhaaGreatDoor.Sr
open Go.RowKit Rn
theorem run_clear2 (w : World) (b o n c : Nat) (ty : TypeId) (hn : 0 < n) (hc : ∀ j, j < n * 2 → (w.cell? ⟨b, o + j, none⟩).isSome = true) (hf : ∀ j, j < n * 2 → w.frozen? ⟨b, o + j, none⟩ = false) :
  ∃ zs : List Value, zs.length = n * 2 ∧ (Builtin.clear_ #[69] ty #[.slice (some ⟨b, o, none⟩) n c]).run Tryz.prog w = .ok (.tuple #[]) (w.setCells b o zs) := by
 have hl : (Builtin.zeroCells (Value.agg #[.slice none 0 0, .pointer none]).cells n).toList.length = n * 2 := by rw [Array.length_toList, size_zeros _ zeroO]
 refine ⟨_, hl, ?_⟩
 have h1 : ∀ v ∈ (Builtin.zeroCells (Value.agg #[.slice none 0 0, .pointer none]).cells n).toList, v.oneCell' = true := by
  intro v hv
  have hv := Array.mem_toList_iff.1 hv
  unfold Builtin.zeroCells at hv
  obtain ⟨i, hi, e⟩ := Array.getElem_of_mem hv
  have e2 : v = (Value.agg #[.slice none 0 0, .pointer none]).cells[i % 2]! := by
   rw [← e]
   simp [zeroO, getElem!_def]
  rw [e2]
  rcases Nat.mod_two_eq_zero_or_one i with h | h
  ·
   rw [h]; rfl
  ·
   rw [h]; rfl
 have hst := run_storeCells_cells (P := Tryz.prog) b o _ 0 w (by simpa [hl] using hc) (by simpa [hl] using hf) h1
 simp only [Nat.add_zero] at hst
 obtain ⟨m, rfl⟩ : ∃ m, n = m + 1 := ⟨n - 1, by omega⟩
 have hu : Tryz.prog.underlying 69 = some (.slice 74) := Tryz.underlying69
 simp [Builtin.clear_, run_underlying hu, Tryz.zeroValue74, hst]
/-- A row half struck: what is kept of the first j stands first, the rest where it stood. -/
structure Dx (w : World) (g cap n : Nat) (rs : List SRec) (i j : Nat) : Prop where
 h : ∃ cur : Array Value, w.heap[g]? = some (.cells cur 74 (0, 0)) ∧ cur.size = cap * 2 ∧ cur.toList.take (i * 2) = cellsO (kept (rs.take j)) ∧
  ∀ t, j ≤ t → t < n → cur.toList[t * 2]? = some (rs.getD t r0).lab ∧ cur.toList[t * 2 + 1]? = some (.pointer (some ⟨(rs.getD t r0).ring, 0, none⟩))
theorem Dx.later {w w' : World} {g cap n : Nat} {rs : List SRec} {i j : Nat} (h : Dx w g cap n rs i j) (hb : Below w.heap.size w w') : Dx w' g cap n rs i j := by
 obtain ⟨cur, h1, h2⟩ := h.h
 have hlt : g < w.heap.size := (Array.getElem?_eq_some_iff.1 h1).1
 exact ⟨cur, (hb.block g hlt).trans h1, h2⟩
theorem Dx.at {w : World} {g cap n : Nat} {rs : List SRec} {i j : Nat} (h : Dx w g cap n rs i j) (hj : j < n) : w.cell? ⟨g, j * 2, none⟩ = some (rs.getD j r0).lab ∧ w.cell? ⟨g, j * 2 + 1, none⟩ = some (.pointer (some ⟨(rs.getD j r0).ring, 0, none⟩)) := by
 obtain ⟨cur, h1, h2, h3, h4⟩ := h.h
 obtain ⟨a, b⟩ := h4 j (Nat.le_refl _) hj
 rw [cell_of_row _ _ _ _ _ _ h1, cell_of_row _ _ _ _ _ _ h1]
 exact ⟨(Array.getElem?_toList).symm.trans a, (Array.getElem?_toList).symm.trans b⟩
theorem Dx.open_ {w : World} {g cap n : Nat} {rs : List SRec} {i j : Nat} (h : Dx w g cap n rs i j) (k : Nat) : w.frozen? ⟨g, k, none⟩ = false := by
 obtain ⟨cur, h1, h2⟩ := h.h
 exact frozen_of_cur h1 k
theorem Dx.has {w : World} {g cap n : Nat} {rs : List SRec} {i j : Nat} (h : Dx w g cap n rs i j) {k : Nat} (hk : k < cap * 2) : ∃ u, w.cell? ⟨g, k, none⟩ = some u := by
 obtain ⟨cur, h1, h2, -⟩ := h.h
 exact Option.isSome_iff_exists.1 (cell_of_cur h1 (by rw [h2]; exact hk))
theorem kept_snoc (rs : List SRec) (r : SRec) : Sr.kept (rs ++ [r]) = if r.l.isEmpty = true then Sr.kept rs else Sr.kept rs ++ [r] := by
 unfold Sr.kept
 rw [List.filter_append]
 cases h : r.l.isEmpty <;> simp [h]
theorem take_snocO {rs : List SRec} {j : Nat} (h : j < rs.length) : rs.take (j + 1) = rs.take j ++ [rs.getD j r0] := by
 rw [List.take_add_one, List.getD_eq_getElem?_getD, List.getElem?_eq_getElem h]
 rfl
/-- One that is gone is passed over. -/
theorem Dx.skip {w : World} {g cap n : Nat} {rs : List SRec} {i j : Nat} (h : Dx w g cap n rs i j) (hl : rs.length = n) (hj : j < n) (hy : (rs.getD j r0).l.isEmpty = true) : Dx w g cap n rs i (j + 1) := by
 obtain ⟨cur, h1, h2, h3, h4⟩ := h.h
 refine ⟨cur, h1, h2, ?_, fun t ht htn => h4 t (by omega) htn⟩
 rw [h3, take_snocO (by omega), kept_snoc, if_pos hy]
/-- One that stays is laid at its place. -/
theorem Dx.put {w : World} {g cap n : Nat} {rs : List SRec} {i j : Nat} (h : Dx w g cap n rs i j) (hl : rs.length = n) (hj : j < n) (hn : n ≤ cap) (hi : i < j) (hk : (Sr.kept (rs.take j)).length = i) (hy : (rs.getD j r0).l.isEmpty = false) :
  Dx ((w.setCell ⟨g, i * 2, none⟩ (rs.getD j r0).lab).setCell ⟨g, i * 2 + 1, none⟩ (.pointer (some ⟨(rs.getD j r0).ring, 0, none⟩))) g cap n rs (i + 1) (j + 1) := by
 obtain ⟨cur, h1, h2, h3, h4⟩ := h.h
 obtain ⟨cur2, k1, k2, k3⟩ := heap_setCells g (twoO (rs.getD j r0)) (i * 2) w cur 74 (0, 0) h1 (by rw [h2]; show i * 2 + 2 ≤ _; omega)
 have hal : cur.toList.length = cap * 2 := by rw [Array.length_toList, h2]
 have et : (cur.toList.take (i * 2)).length = i * 2 := by rw [List.length_take]; omega
 refine ⟨cur2, k1, by rw [k2, h2], ?_, fun t ht htn => ?_⟩
 ·
  rw [k3, h3, take_snocO (by omega), kept_snoc, if_neg (by rw [hy]; decide), cellsO_append]
  have el : (cellsO (Sr.kept (rs.take j)) ++ twoO (rs.getD j r0)).length = (i + 1) * 2 := by rw [List.length_append, cellsO_length, hk]; show i * 2 + 2 = _; omega
  rw [← el, List.take_append_of_le_length (Nat.le_refl _), List.take_length]
  simp [cellsO]
 ·
  have hd : ∀ k, i * 2 + 2 ≤ k → cur2.toList[k]? = cur.toList[k]? := fun k hk' => by
   rw [k3, List.append_assoc, List.getElem?_append_right (by rw [et]; omega), et, List.getElem?_append_right (by show 2 ≤ _; omega), List.getElem?_drop]
   show cur.toList[i * 2 + 2 + (k - i * 2 - 2)]? = _
   rw [show i * 2 + 2 + (k - i * 2 - 2) = k by omega]
  rw [hd _ (by omega), hd _ (by omega)]
  exact h4 t (by omega) htn
theorem Dx.start {w : World} {base g n cap : Nat} {rs : List SRec} (h : OwnO w base (.slice (some ⟨g, 0, none⟩) n cap) rs) (hp : idxG rs < n) : Dx w g cap n rs (idxG rs) (idxG rs + 1) := by
 have hln : rs.length = n := h.slice.1.symm
 obtain ⟨hpl, ⟨hpe, _⟩ | ⟨g', c', cur, he, hbg, hg, hnc, hcm, hcs, htake⟩⟩ := h
 ·
  cases hpe
 injection he with e1 e2 e3
 injection e1 with e1
 injection e1 with e1
 subst e1 e3
 clear e2
 have hlt : idxG rs < rs.length := by omega
 refine ⟨cur, hg, hcs, ?_, fun t ht htn => ?_⟩
 ·
  have e1 : kept (rs.take (idxG rs)) = rs.take (idxG rs) := by
   refine List.filter_eq_self.2 fun r hr => ?_
   obtain ⟨k, hk, e⟩ := List.getElem_of_mem hr
   rw [List.length_take] at hk
   have hk2 : k < rs.findIdx fun r => r.l.isEmpty := by
    have : k < idxG rs := by omega
    exact this
   have := List.not_of_lt_findIdx hk2
   rw [List.getElem_take] at e
   rw [← e]
   simpa using this
  have e2 : (rs.getD (idxG rs) r0).l.isEmpty = true := by
   rw [List.getD_eq_getElem?_getD, List.getElem?_eq_getElem hlt]
   exact List.findIdx_getElem (w := hlt)
  rw [take_snocO hlt, kept_snoc, if_pos e2, e1, ← cellsO_take, ← htake, List.take_take, Nat.min_eq_left (by omega)]
 ·
  obtain ⟨g1, g2⟩ := cellsO_get (rs := rs) (j := t) (by omega)
  rw [← htake] at g1 g2
  rw [List.getElem?_take_of_lt (by omega)] at g1 g2
  exact ⟨g1, g2⟩
theorem Dx.fin {w : World} {base g cap n : Nat} {rs : List SRec} {i : Nat} (h : Dx w g cap n rs i n) (hl : rs.length = n) (hn : n ≤ cap) (hm : cap ≤ maxLen) (hb : base ≤ g) (hi : i < n) (hk : (Sr.kept (rs.take n)).length = i) :
  ∃ zs : List Value, zs.length = (n - i) * 2 ∧ (Builtin.clear_ #[69] 0 #[.slice (some ⟨g, i * 2, none⟩) (n - i) (cap - i)]).run Tryz.prog w = .ok (.tuple #[]) (w.setCells g (i * 2) zs) ∧ OwnO (w.setCells g (i * 2) zs) base (.slice (some ⟨g, 0, none⟩) i cap) (Sr.kept rs) := by
 have h' := h
 obtain ⟨cur, h1, h2, h3, h4⟩ := h.h
 obtain ⟨zs, hz, hr⟩ := run_clear2 w g (i * 2) (n - i) (cap - i) 0 (by omega) (fun j hj => by obtain ⟨u, hu⟩ := h'.has (k := i * 2 + j) (by omega); rw [hu]; rfl) (fun j _ => h'.open_ _)
 refine ⟨zs, hz, hr, ?_⟩
 have hal : cur.toList.length = cap * 2 := by rw [Array.length_toList, h2]
 obtain ⟨cur2, k1, k2, k3⟩ := heap_setCells g zs (i * 2) w cur 74 (0, 0) h1 (by rw [h2, hz]; omega)
 have et : rs.take n = rs := List.take_of_length_le (by omega)
 rw [et] at h3 hk
 unfold OwnO
 rw [hk]
 refine ⟨by rw [cellsO_length, hk], Or.inr ⟨g, cap, cur2, rfl, hb, k1, by omega, hm, by rw [k2, h2], ?_⟩⟩
 rw [k3, List.append_assoc, List.take_append_of_le_length (by rw [List.length_take]; omega), List.take_take, Nat.min_self, h3]
theorem wpList_clearO (w : World) {ops : Array Oper} {rest : List Oper} {o : Oper} {a : Act} {Q : Exit → Act → World → Prop} (hgd : o.guard = none) (s : Operand)
  (ho : o.op = .call { callee := .builtin .clear, args := #[s], argTypes := #[69] }) (v : Value) (hs : a.eval s = v) {v' : Value} {w' : World}
  (hr : (Builtin.clear_ #[69] 0 #[v]).run Tryz.prog w = .ok v' w') (ht : o.type = 0) (h : wpList Tryz.prog ops Q rest (a.put o.dst v') w') : wpList Tryz.prog ops Q (o :: rest) a w := by
 refine wpList_plain hgd fun K hK => ?_
 unfold Oper.wp execOp
 simp only [ho, ht, resolve, invoke, builtin, Sem.run_bind, Sem.run_pure, Result.andThen_ok, List.map_toArray, List.map_cons, List.map_nil, hs, hr]
 exact hK _ _ h
theorem kept_len_le (l : List SRec) : (kept l).length ≤ l.length := List.length_filter_le _ _
set_option maxHeartbeats 8000000 in
set_option maxRecDepth 100000 in
theorem del_some (base : Nat) (g n cap : Nat) (rs : List SRec) (w : World) (hn : n ≤ 1000) (hp : OwnO w base (.slice (some ⟨g, 0, none⟩) n cap) rs) (hs : ∀ r ∈ rs, St w r.ring r.l 100 r.t ∧ g ≠ r.ring) (hq : ∀ r ∈ rs, ∃ xa xn xc, r.lab = .slice xa xn xc) (hx : idxG rs < n) :
  Calls Tryz.prog 28 #[.slice (some ⟨g, 0, none⟩) n cap, .func (.func 29) #[] #[]] w fun e w' => e = .returned (.slice (some ⟨g, 0, none⟩) (kept rs).length cap) ∧ OwnO w' base (.slice (some ⟨g, 0, none⟩) (kept rs).length cap) (kept rs) ∧ w.grownBy w' (some g) := by
 have hln : rs.length = n := hp.slice.1.symm
 have hty : Ty w g 74 := row_ty hp rfl
 have hcapb : n ≤ cap ∧ cap ≤ maxLen ∧ base ≤ g := by
  obtain ⟨hpl, ⟨hpe, _⟩ | ⟨g', c', cur, he, hbg, hg, hnc, hcm, hcs, htake⟩⟩ := hp
  ·
   cases hpe
  ·
   injection he with e1 e2 e3
   injection e1 with e1
   injection e1 with e1
   subst e1 e3
   exact ⟨by omega, hcm, hbg⟩
 have hix := index_any (some ⟨g, 0, none⟩) n cap rs w hn hp.slice.2 (fun r hr => (hs r hr).1)
 have ev : idxV rs n = ((idxG rs : Nat) : Int) := by unfold idxV; rw [if_pos hx]
 rw [ev] at hix
 have HST : Hid (∀ W, Below w.heap.size w W → Dx W g cap n rs (idxG rs) (idxG rs + 1)) := fun W hW => (Dx.start hp hx).later hW
 have HK0 : Hid ((kept (rs.take (idxG rs + 1))).length = idxG rs) := by
  obtain ⟨cur, h1, h2, h3, h4⟩ := (Dx.start hp hx).h
  have := congrArg List.length h3
  rw [List.length_take, Array.length_toList, h2, cellsO_length] at this
  show _ = _
  omega
 have HS : Hid (∀ W, w.grownBy W (some g) → ∀ j, j < n → St W (rs.getD j r0).ring (rs.getD j r0).l 100 (rs.getD j r0).t) := fun W hW j hj => by
  obtain ⟨h1, h2⟩ := hs _ (getD_mem (show j < rs.length by omega))
  exact h1.kept hW (fun e => h2 (by injection e with e; exact e.symm))
 have HQ : Hid (∀ j, j < n → ∃ xa xn xc, (rs.getD j r0).lab = .slice xa xn xc) := fun j hj => hq _ (getD_mem (by omega))
 have HN : Hid (rs.length = n) := hln
 have HC : Hid (n ≤ cap ∧ cap ≤ maxLen ∧ base ≤ g) := hcapb
 have HGL : Hid (g < w.heap.size) := hty.lt
 clear hp hs hln hcapb ev hty hq
 generalize idxG rs = p at *
 have hz : ¬ ((p : Int) = -1) := by omega
 have hz2 : decide ((p : Int) = -1) = false := decide_eq_false hz
 have hz3 : ((p : Int) == -1) = false := beq_eq_false_iff_ne.2 hz
 go_enter Tryz.func28, Tryz.ntmps28
 go_wp2_with fail
 refine hix.mono ?_
 rintro e w1 ⟨rfl, hb1⟩
 have hd1 := HST.out _ hb1
 have hg1 := grown_below hb1 (some g)
 clear hix HST
 go_wp2
 go_loopw [5, 6] (fun vi vj wr => ∃ i j : Nat, vi = .int .i64 i ∧ vj = .int .i64 j ∧ i < j ∧ j ≤ n ∧ Hid ((kept (rs.take j)).length = i) ∧ Dx wr g cap n rs i j ∧ w.grownBy wr (some g)) (fun _ vj _ => n - (intOf vj).toNat)
 case atStart => exact ⟨p, p + 1, rfl, by go_num, by omega, by omega, HK0, hd1, hg1⟩
 case round =>
  obtain ⟨i, j, rfl, rfl, hij, hj, HK, hdx, hgr⟩ := hrel
  by_cases hlt : j < n
  ·
   have hd : decide ((j : Int) < (n : Int)) = true := decide_eq_true (by omega)
   obtain ⟨c0, c1⟩ := hdx.at hlt
   have hst := HS.out _ (hgr.trans (grown_below (bal (Below.refl _ wr) (.cells #[(rs.getD j r0).lab, .pointer (some ⟨(rs.getD j r0).ring, 0, none⟩)] 74)) (some g))) j hlt
   have hgone := gone_any (rs.getD j r0).lab (rs.getD j r0).ring (rs.getD j r0).l _ _ hst
   have hb2 := bal (Below.refl _ wr) (.cells #[(rs.getD j r0).lab, .pointer (some ⟨(rs.getD j r0).ring, 0, none⟩)] 74)
   have HY1 : Hid ((rs.getD j r0).l.isEmpty = true → ∀ W, Dx W g cap n rs i j → Dx W g cap n rs i (j + 1)) := fun h W hW => hW.skip HN.out hlt h
   have HK1 : Hid ((rs.getD j r0).l.isEmpty = true → (kept (rs.take (j + 1))).length = i) := fun h => by rw [take_snocO (by rw [HN.out]; exact hlt), kept_snoc, if_pos h]; exact HK.out
   have HY2 : Hid ((rs.getD j r0).l.isEmpty = false → ∀ W, Dx W g cap n rs i j → Dx ((W.setCell ⟨g, i * 2, none⟩ (rs.getD j r0).lab).setCell ⟨g, i * 2 + 1, none⟩ (.pointer (some ⟨(rs.getD j r0).ring, 0, none⟩))) g cap n rs (i + 1) (j + 1)) := fun h W hW => hW.put HN.out hlt HC.out.1 hij HK.out h
   have HK2 : Hid ((rs.getD j r0).l.isEmpty = false → (kept (rs.take (j + 1))).length = i + 1) := fun h => by rw [take_snocO (by rw [HN.out]; exact hlt), kept_snoc, if_neg (by rw [h]; decide), List.length_append, HK.out]; rfl
   have hql := HQ.out j hlt
   generalize rs.getD j r0 = y at *
   obtain ⟨lab, rb, sy, ly, ty⟩ := y
   dsimp only at *
   generalize ly.isEmpty = z at *
   clear hst
   obtain ⟨xa, xn, xc, rfl⟩ := hql
   cases z with
   | true =>
    go_wp2_with fail
    refine hgone.mono ?_
    rintro e w2 ⟨rfl, hb3⟩
    go_wp2
    go_roundw
    case rel => exact ⟨i, j + 1, rfl, by go_num, by omega, by omega, HK1.out (by simp), HY1.out (by simp) _ ((hdx.later hb2).later hb3), (hgr.trans (grown_below hb2 _)).trans (grown_below hb3 _)⟩
    case measure => simp [intOf]; omega
   | false =>
    have hx0 : (wr.alloc (.cells #[.slice xa xn xc, .pointer (some ⟨rb, 0, none⟩)] 74)).cell? ⟨wr.heap.size, 0, none⟩ = some (.slice xa xn xc) := by simp [go_sem]
    have hx1 : (wr.alloc (.cells #[.slice xa xn xc, .pointer (some ⟨rb, 0, none⟩)] 74)).cell? ⟨wr.heap.size, 1, none⟩ = some (.pointer (some ⟨rb, 0, none⟩)) := by simp [go_sem]
    go_wp2_with fail
    refine hgone.mono ?_
    rintro e w2 ⟨rfl, hb3⟩
    have hdx2 := (hdx.later hb2).later hb3
    have k0 := (hb3.cell (p := ⟨wr.heap.size, 0, none⟩) (World.block_lt_of_cell? _ _ hx0)).trans hx0
    have k1 := (hb3.cell (p := ⟨wr.heap.size, 1, none⟩) (World.block_lt_of_cell? _ _ hx1)).trans hx1
    obtain ⟨u0, hu0⟩ := hdx2.has (k := i * 2) (by have := HC.out.1; omega)
    obtain ⟨u1, hu1⟩ := hdx2.has (k := i * 2 + 1) (by have := HC.out.1; omega)
    have f0 := hdx2.open_ (i * 2)
    have f1 := hdx2.open_ (i * 2 + 1)
    have hin : i < n := by omega
    go_wp2
    go_roundw
    case rel => exact ⟨i + 1, j + 1, by go_num, by go_num, by omega, by omega, HK2.out (by simp), HY2.out (by simp) _ hdx2, ((hgr.trans (grown_below hb2 _)).trans (grown_below hb3 _)).trans ((grown_set _ _ _ _).trans (grown_set _ _ _ _))⟩
    case measure => simp [intOf]; omega
  ·
   have hd : decide ((j : Int) < (n : Int)) = false := decide_eq_false (by omega)
   obtain rfl : j = n := by omega
   have hfin := hdx.fin HN.out HC.out.1 HC.out.2.1 HC.out.2.2 hij HK.out
   obtain ⟨zs, hz1, hz2, hz3⟩ := hfin
   have HZ2 : Hid _ := hz2
   have HZ3 : Hid _ := hz3
   have s1 := fun W => cut_lo g j cap i i rfl (by omega) (by have := HC.out.1; omega) W
   have s2 := fun W => cut_hi g j cap i i rfl (by have := HC.out.1; omega) W
   have HKE : Hid ((kept rs).length = i) := by
    have := HK.out
    rw [List.take_of_length_le (by rw [HN.out]; omega)] at this
    exact this
   have hin : i ≤ j := by omega
   clear hz2 hz3
   go_wp2_with (refine wpList_clearO _ rfl _ rfl _ rfl HZ2.out rfl ?_)
   go_ret
   have h3 := HZ3.out
   rw [HKE.out]
   exact ⟨rfl, h3, hgr.trans (grown_setCells _ _ _ _)⟩
set_option maxRecDepth 100000 in
theorem del_none (base : Nat) (ao : Option Addr) (n cap : Nat) (rs : List SRec) (w : World) (hn : n ≤ 1000) (hp : OwnO w base (.slice ao n cap) rs) (hs : ∀ r ∈ rs, St w r.ring r.l 100 r.t) (hx : ¬ idxG rs < n) :
  Calls Tryz.prog 28 #[.slice ao n cap, .func (.func 29) #[] #[]] w fun e w' => e = .returned (.slice ao n cap) ∧ Below w.heap.size w w' := by
 have hix := index_any ao n cap rs w hn hp.slice.2 hs
 have ev : idxV rs n = -1 := by unfold idxV; rw [if_neg hx]
 rw [ev] at hix
 clear ev hp hs hx
 go_enter Tryz.func28, Tryz.ntmps28
 go_wp2_with fail
 refine hix.mono ?_
 rintro e w1 ⟨rfl, hb1⟩
 go_wp2
 go_ret
 exact ⟨rfl, hb1⟩
/-- slices.DeleteFunc: those that are gone are struck out, in place. -/
theorem del_any (base : Nat) (ao : Option Addr) (n cap : Nat) (rs : List SRec) (w : World) (hn : n ≤ 1000) (hp : OwnO w base (.slice ao n cap) rs) (hs : ∀ r ∈ rs, St w r.ring r.l 100 r.t) (h2 : ∀ r ∈ rs, ∀ g, (Value.slice ao n cap).ownBlock = some g → g ≠ r.ring) (hq : ∀ r ∈ rs, ∃ xa xn xc, r.lab = .slice xa xn xc) :
  Calls Tryz.prog 28 #[.slice ao n cap, .func (.func 29) #[] #[]] w fun e w' => ∃ k, e = .returned (.slice ao k cap) ∧ OwnO w' base (.slice ao k cap) (kept rs) ∧ w.grownBy w' (Value.slice ao n cap).ownBlock := by
 have hln : rs.length = n := hp.slice.1.symm
 by_cases hx : idxG rs < n
 ·
  obtain ⟨g, e, -⟩ := hp.slice.2.2 (by omega)
  subst e
  exact (del_some base g n cap rs w hn hp (fun r hr => ⟨hs r hr, h2 r hr g rfl⟩) hq hx).mono fun _ _ ⟨h1, h2, h3⟩ => ⟨_, h1, h2, h3⟩
 ·
  refine (del_none base ao n cap rs w hn hp hs hx).mono ?_
  rintro e w' ⟨h1, h2⟩
  have ek : kept rs = rs := by
   refine List.filter_eq_self.2 fun r hr => ?_
   have h3 : ¬ rs.findIdx (fun r => r.l.isEmpty) < rs.length := by rw [hln]; exact hx
   rw [List.findIdx_lt_length] at h3
   cases h : r.l.isEmpty
   ·
    rfl
   ·
    exact absurd ⟨r, hr, h⟩ h3
  rw [ek]
  exact ⟨n, h1, row_kept hp (grown_below h2 none) (fun _ _ => by simp), grown_below h2 _⟩
end Go.Proofs.YtjgckfcocmhnhaaGreatDoor.Sr
namespace Go.Proofs.YtjgckfcocmhnhaaGreatDoor.Sr
open Go.RowKit Rn
/-- A series at another time. -/
def later (t : Int) (r : SRec) : SRec := { r with l := fg (onw r.t t - 100) r.l, t := onw r.t t }
/-- The first j are at the new time. -/
def part (t : Int) (j : Nat) (rs : List SRec) : List SRec := (rs.take j).map (later t) ++ rs.drop j
theorem part_zero (t : Int) (rs : List SRec) : part t 0 rs = rs := by simp [part]
theorem part_all (t : Int) (rs : List SRec) {n : Nat} (h : rs.length ≤ n) : part t n rs = rs.map (later t) := by
 unfold part
 rw [List.take_of_length_le h, List.drop_of_length_le h, List.append_nil]
theorem part_len (t : Int) (j : Nat) (rs : List SRec) : (part t j rs).length = rs.length := by
 unfold part
 rw [List.length_append, List.length_map, ← List.length_append, List.take_append_drop]
theorem cellsO_later (t : Int) (rs : List SRec) : cellsO (rs.map (later t)) = cellsO rs := by
 induction rs with
 | nil => rfl
 | cons r rs ih => rw [List.map_cons, cellsO_cons, cellsO_cons, ih]; rfl
theorem cellsO_part (t : Int) (j : Nat) (rs : List SRec) : cellsO (part t j rs) = cellsO rs := by
 unfold part
 rw [cellsO_append, cellsO_later, ← cellsO_append, List.take_append_drop]
theorem part_get (t : Int) {j : Nat} {rs : List SRec} {i : Nat} (hi : i < rs.length) : (part t j rs)[i]'(by rw [part_len]; exact hi) = if i < j then later t rs[i] else rs[i] := by
 unfold part
 by_cases h : i < j
 ·
  rw [if_pos h, List.getElem_append_left (by rw [List.length_map, List.length_take]; omega), List.getElem_map, List.getElem_take]
 ·
  rw [if_neg h, List.getElem_append_right (by rw [List.length_map, List.length_take]; omega), List.getElem_drop]
  congr 1
  rw [List.length_map, List.length_take]
  omega
theorem part_mem {t : Int} {j : Nat} {rs : List SRec} {r : SRec} (h : r ∈ part t j rs) : ∃ i, ∃ hi : i < rs.length, r = if i < j then later t rs[i] else rs[i] := by
 obtain ⟨i, hi, e⟩ := List.getElem_of_mem h
 rw [part_len] at hi
 exact ⟨i, hi, by rw [← e, part_get t hi]⟩
/-- One series more is at the new time. -/
theorem Sx.turn {w w' : World} {sb : Nat} {now : Int} {base : Nat} {ao : Option Addr} {n cap : Nat} {rs : List SRec} {t : Int} {j : Nat} (h : Sx w sb now base ao n cap (part t j rs)) (hj : j < rs.length)
  (hs : St w' rs[j].ring (fg (onw rs[j].t t - 100) rs[j].l) 100 (onw rs[j].t t)) (hg : w.grownBy w' (some rs[j].ring)) : Sx w' sb now base ao n cap (part t (j + 1) rs) := by
 have hmem : rs[j] ∈ part t j rs := by
  have := List.getElem_mem (l := part t j rs) (n := j) (by rw [part_len]; exact hj)
  rw [part_get t hj, if_neg (by omega)] at this
  exact this
 have hrj : rs[j].ring ≠ sb := h.n1 _ hmem
 have h1 : some sb ≠ some rs[j].ring := fun e => hrj (by injection e with e; exact e.symm)
 have hring : ∀ i (hi : i < rs.length), ∀ k (hk : k < rs.length), i ≠ k → rs[i].ring ≠ rs[k].ring := by
  intro i hi k hk hik
  have hr : ∀ i (hi : i < rs.length), ((part t j rs)[i]'(by rw [part_len]; exact hi)).ring = rs[i].ring := fun i hi => by rw [part_get t hi]; split <;> rfl
  rcases Nat.lt_or_ge i k with hlt | hge
  ·
   have := List.pairwise_iff_getElem.1 h.ap i k (by rw [part_len]; exact hi) (by rw [part_len]; exact hk) hlt
   rw [hr i hi, hr k hk] at this
   exact this
  ·
   have := List.pairwise_iff_getElem.1 h.ap k i (by rw [part_len]; exact hk) (by rw [part_len]; exact hi) (by omega)
   rw [hr i hi, hr k hk] at this
   exact fun e => this e.symm
 refine ⟨grown_cell hg h.c0 h1, grown_cell hg h.c1 h1, grown_frozen hg h.t.lt h.f0 h1, grown_frozen hg h.t.lt h.f1 h1, h.t.kept hg h1, ?_, fun r hr => ?_, fun r hr => ?_, fun r hr => ?_, fun r hr => ?_, fun r hr x hx => ?_, ?_⟩
 ·
  have := row_kept h.p hg (fun g e e1 => h.n2 _ hmem g e (by injection e1))
  unfold OwnO at this ⊢
  rw [cellsO_part, part_len] at this ⊢
  exact this
 ·
  obtain ⟨i, hi, rfl⟩ := part_mem hr
  have hm := List.getElem_mem (l := part t j rs) (n := i) (by rw [part_len]; exact hi)
  have hq := (h.q _ hm).keptN hg (fun g e e1 => h.n3 _ hmem _ hm g e (by injection e1))
  rw [part_get t hi] at hq
  by_cases h2 : i < j + 1
  ·
   rw [if_pos h2]
   by_cases h3 : i < j
   ·
    rw [if_pos h3] at hq; exact hq
   ·
    rw [if_neg h3] at hq; exact hq
  ·
   rw [if_neg h2]
   rw [if_neg (by omega)] at hq
   exact hq
 ·
  obtain ⟨i, hi, rfl⟩ := part_mem hr
  have hm := List.getElem_mem (l := part t j rs) (n := i) (by rw [part_len]; exact hi)
  have hq := h.s _ hm
  rw [part_get t hi] at hq
  by_cases h3 : i = j
  ·
   subst h3
   rw [if_pos (by omega)]
   exact hs
  ·
   have hn := hring i hi j hj h3
   by_cases h2 : i < j
   ·
    rw [if_pos (by omega)]
    rw [if_pos h2] at hq
    exact hq.kept hg (fun e => hn (by injection e))
   ·
    rw [if_neg (by omega)]
    rw [if_neg h2] at hq
    exact hq.kept hg (fun e => hn (by injection e))
 ·
  obtain ⟨i, hi, rfl⟩ := part_mem hr
  have hm := List.getElem_mem (l := part t j rs) (n := i) (by rw [part_len]; exact hi)
  have hq := h.n1 _ hm
  rw [part_get t hi] at hq
  revert hq
  split <;> split <;> exact id
 ·
  obtain ⟨i, hi, rfl⟩ := part_mem hr
  have hm := List.getElem_mem (l := part t j rs) (n := i) (by rw [part_len]; exact hi)
  have hq := h.n2 _ hm
  rw [part_get t hi] at hq
  revert hq
  split <;> split <;> exact id
 ·
  obtain ⟨i, hi, rfl⟩ := part_mem hr
  obtain ⟨k, hk, rfl⟩ := part_mem hx
  have hm := List.getElem_mem (l := part t j rs) (n := i) (by rw [part_len]; exact hi)
  have hm2 := List.getElem_mem (l := part t j rs) (n := k) (by rw [part_len]; exact hk)
  have hq := h.n3 _ hm _ hm2
  rw [part_get t hi, part_get t hk] at hq
  revert hq
  split <;> split <;> split <;> split <;> exact id
 ·
  refine List.pairwise_iff_getElem.2 fun i k hi hk hik => ?_
  rw [part_len] at hi hk
  rw [part_get t hi, part_get t hk]
  have := hring i hi k hk (by omega)
  split <;> split <;> exact this
end Go.Proofs.YtjgckfcocmhnhaaGreatDoor.Sr
namespace Go.Proofs.YtjgckfcocmhnhaaGreatDoor.Sr
open Go.RowKit Rn
theorem Sx.setNow {w : World} {sb : Nat} {now : Int} {base : Nat} {ao : Option Addr} {n cap : Nat} {rs : List SRec} (h : Sx w sb now base ao n cap rs) (t : Int) : Sx (w.setCell ⟨sb, 1, none⟩ (.int .i64 t)) sb t base ao n cap rs := by
 have hg := grown_set w sb 1 (.int .i64 t)
 have e := fun (j : Nat) => set_at (j := j) (v := .int .i64 t) h.c1
 refine ⟨by rw [e, if_neg (by decide)]; exact h.c0, by rw [e, if_pos rfl], by simpa using h.f0, by simpa using h.f1, h.t.set _ _, row_kept h.p hg (row_ne h.p h.t (by decide)), fun r hr => ?_, fun r hr => ?_, h.n1, h.n2, h.n3, h.ap⟩
 ·
  exact (h.q r hr).keptN hg (fun g hg' e1 => by obtain ⟨xa, xn, xc, hv, _, _, ht⟩ := h.q r hr; exact (ht g hg').ne h.t (by decide) (by injection e1))
 ·
  exact (h.s r hr).kept hg (fun e1 => h.n1 r hr (by injection e1))
/-- What a round of Advance reads. -/
theorem Sx.atp {w : World} {sb : Nat} {now : Int} {base : Nat} {ao : Option Addr} {n cap : Nat} {rs : List SRec} {t : Int} {j : Nat} (h : Sx w sb now base ao n cap (part t j rs)) (hj : j < rs.length) :
  (∃ g, ao = some ⟨g, 0, none⟩ ∧ w.cell? ⟨g, j * 2, none⟩ = some rs[j].lab ∧ w.cell? ⟨g, j * 2 + 1, none⟩ = some (.pointer (some ⟨rs[j].ring, 0, none⟩))) ∧ (∃ xa xn xc, rs[j].lab = .slice xa xn xc) ∧ St w rs[j].ring rs[j].l 100 rs[j].t := by
 have hmem : rs[j] ∈ part t j rs := by
  have := List.getElem_mem (l := part t j rs) (n := j) (by rw [part_len]; exact hj)
  rw [part_get t hj, if_neg (by omega)] at this
  exact this
 have hn : n = rs.length := by rw [← h.len, part_len]
 obtain ⟨g, e, -, hc⟩ := h.os.2 (by omega)
 have hg := hc j (by omega)
 rw [List.getD_eq_getElem?_getD, List.getElem?_eq_getElem (by rw [part_len]; exact hj), Option.getD_some, part_get t hj, if_neg (by omega)] at hg
 obtain ⟨xa, xn, xc, hv, _⟩ := h.q _ hmem
 exact ⟨⟨g, e, hg.1, hg.2⟩, ⟨xa, xn, xc, hv⟩, h.s _ hmem⟩
/-- The store whose row was struck. -/
theorem sx_strike {w w2 : World} {sb : Nat} {now : Int} {base : Nat} {ao : Option Addr} {n cap k : Nat} {rs : List SRec} (h : Sx w sb now base ao n cap rs) (ho : OwnO w2 base (.slice ao k cap) (kept rs)) (hg : w.grownBy w2 (Value.slice ao n cap).ownBlock) :
  w2.cell? ⟨sb, 0, none⟩ = some (.slice ao n cap) ∧ w2.frozen? ⟨sb, 0, none⟩ = false ∧ Sx (w2.setCell ⟨sb, 0, none⟩ (.slice ao k cap)) sb now base ao k cap (kept rs) := by
 have hne : some sb ≠ (Value.slice ao n cap).ownBlock := fun e => (row_ty h.p e.symm).ne h.t (by decide) rfl
 have c0 := grown_cell hg h.c0 hne
 have c1 := grown_cell hg h.c1 hne
 have f0 := grown_frozen hg h.t.lt h.f0 hne
 have f1 := grown_frozen hg h.t.lt h.f1 hne
 have t2 := h.t.kept hg hne
 have hg2 := grown_set w2 sb 0 (.slice ao k cap)
 have e := fun (j : Nat) => set_at (j := j) (v := .slice ao k cap) c0
 have hm : ∀ r ∈ kept rs, r ∈ rs := fun r hr => (List.mem_filter.1 hr).1
 refine ⟨c0, f0, by rw [e, if_pos rfl], by rw [e, if_neg (by decide)]; exact c1, by simpa using f0, by simpa using f1, t2.set _ _, row_kept ho hg2 (row_ne ho t2 (by decide)), fun r hr => ?_, fun r hr => ?_, fun r hr => h.n1 r (hm r hr), fun r hr g hgb => h.n2 r (hm r hr) g (by cases ao <;> exact hgb), fun r hr x hx => h.n3 r (hm r hr) x (hm x hx), h.ap.sublist List.filter_sublist⟩
 ·
  have hq := h.q r (hm r hr)
  obtain ⟨xa, xn, xc, hv, _, _, ht⟩ := id hq
  have hq2 := hq.keptN hg (fun g hg' e1 => (ht g hg').ne (row_ty h.p e1.symm) (by decide) rfl)
  exact hq2.keptN hg2 (fun g hg' e1 => by obtain ⟨xa, xn, xc, hv, _, _, ht⟩ := hq2; exact (ht g hg').ne t2 (by decide) (by injection e1))
 ·
  have hs := (h.s r (hm r hr)).kept hg (fun e1 => h.n2 r (hm r hr) _ e1.symm rfl)
  exact hs.kept hg2 (fun e1 => h.n1 r (hm r hr) (by injection e1))
set_option maxHeartbeats 4000000 in
set_option maxRecDepth 100000 in
theorem adv_sx (sb : Nat) (now : Int) (base : Nat) (ao : Option Addr) (n cap : Nat) (rs : List SRec) (m : Int) (w : World) (h : Sx w sb now base ao n cap rs) (hn : n ≤ 100) (hr : ∀ r ∈ rs, r.t = now) (hnow : 0 ≤ now ∧ now ≤ 1000000) :
  Calls Tryz.prog 11 #[.pointer (some ⟨sb, 0, none⟩), .int .i64 m] w fun e w' => e = .returned (.tuple #[]) ∧ (∃ k, Sx w' sb (onw now m) base ao k cap (kept (rs.map (later (onw now m))))) ∧ Gf w w' (Ft sb (.slice ao n cap) rs) := by
 have e0 : max now (min m 1000000) = onw now m := rfl
 have HN : Hid (rs.length = n) := h.len
 have HNW : Hid (now ≤ onw now m ∧ onw now m ≤ 1000000) := by have := onw_range m hnow; exact ⟨this.1, this.2.2⟩
 have HR : Hid (∀ r ∈ rs, r.t = now) := hr
 have c0 := h.c0
 have c1 := h.c1
 have f1 := h.f1
 generalize ht : onw now m = t at *
 clear ht
 have h1 := h.setNow t
 have hg1 : Gf w (w.setCell ⟨sb, 1, none⟩ (.int .i64 t)) (Ft sb (.slice ao n cap) rs) := Gf.of (grown_set _ _ _ _) (fun k e _ => by cases e; exact Or.inl rfl)
 have k0 := h1.c0
 have H1 : Hid _ := h1
 clear h1 h hr
 go_enter Tryz.func11, Tryz.ntmps11
 go_wp2
 go_loopw [21] (fun i wr => ∃ j : Nat, j ≤ n ∧ i = .int .i64 j ∧ Hid (Sx wr sb t base ao n cap (part t j rs)) ∧ Gf w wr (Ft sb (.slice ao n cap) rs)) (fun i _ => n - (intOf i).toNat)
 case atStart => exact ⟨0, by omega, rfl, by rw [part_zero]; exact H1, hg1⟩
 case round =>
  obtain ⟨j, hj, rfl, hsx, hgr⟩ := hrel
  by_cases hlt : j < n
  ·
   have hd : decide ((j : Int) < (n : Int)) = true := decide_eq_true (by omega)
   have hjr : j < rs.length := by rw [HN.out]; exact hlt
   obtain ⟨⟨g, rfl, p0, p1⟩, ⟨xa, xn, xc, hv⟩, hst⟩ := hsx.out.atp hjr
   have HT : Hid (∀ w', St w' rs[j].ring (fg (onw rs[j].t t - 100) rs[j].l) 100 (onw rs[j].t t) → ∀ w1, Sx w1 sb t base (some ⟨g, 0, none⟩) n cap (part t j rs) → w1.grownBy w' (some rs[j].ring) → Sx w' sb t base (some ⟨g, 0, none⟩) n cap (part t (j + 1) rs)) := fun w' hs w1 hx hg => hx.turn hjr hs hg
   have HF : Hid (∀ k, some k = some rs[j].ring → Ft sb (.slice (some ⟨g, 0, none⟩) n cap) rs k) := fun k e => by cases e; exact Or.inr (Or.inr ⟨_, List.getElem_mem hjr, rfl⟩)
   have hb2 := bal (Below.refl _ wr) (.cells #[.slice xa xn xc, .pointer (some ⟨rs[j].ring, 0, none⟩)] 74)
   rw [hv] at p0
   have q1 := (hsx.out.later hb2).c1
   have hadv := fun (W : World) (hW : St W (rs[j]'hjr).ring (rs[j]'hjr).l 100 (rs[j]'hjr).t) => adv_st _ _ _ _ t W hW
   have hst2 := hst.later hb2
   have hsx2 := hsx.out.later hb2
   have HSX : Hid _ := hsx2
   have HG2 : Hid _ := hgr.trans (Gf.below hb2)
   clear hsx hst hv hsx2
   generalize rs[j] = y at *
   obtain ⟨lab, rb, sy, ly, ty⟩ := y
   dsimp only at *
   go_wp2_with fail
   go_region_with (go_at_call 27; refine (hadv _ (hst2.later (by first | exact Below.refl _ _ | exact (Below.refl _ _).drew))).mono ?_; rintro e w' ⟨rfl, hs3, hg3⟩)
   all_goals
    have hx2 := HT.out _ hs3 _ (HSX.out.later (by first | exact Below.refl _ _ | exact (Below.refl _ _).drew)) hg3
    have hx3 : Hid _ := hx2
    have hg4 := (HG2.out.trans (Gf.below (by first | exact Below.refl _ _ | exact (Below.refl _ _).drew))).trans (Gf.of hg3 (fun k e _ => HF.out k e.symm))
    clear hx2 hst2
    go_wp2
    go_roundw
    case rel => exact ⟨j + 1, by omega, by go_num, hx3, hg4⟩
    case measure => simp [intOf]; omega
  ·
   have hd : decide ((j : Int) < (n : Int)) = false := decide_eq_false (by omega)
   obtain rfl : j = n := by omega
   have hx := hsx.out
   rw [part_all t rs (by rw [HN.out]; exact Nat.le_refl _)] at hx
   have k1 := hx.c0
   have hdel := del_any base ao j cap _ wr (by omega) hx.p hx.s hx.n2 (fun r hr => by obtain ⟨xa, xn, xc, hv, _⟩ := hx.q r hr; exact ⟨xa, xn, xc, hv⟩)
   have HX : Hid _ := hx
   clear hsx hx
   go_wp2_with fail
   refine hdel.mono ?_
   rintro e w2 ⟨k, rfl, ho2, hg2⟩
   have hfin := sx_strike HX.out ho2 hg2
   have HFI : Hid _ := hfin
   have k2 := hfin.1
   have f2 := hfin.2.1
   clear hfin hdel
   go_wp2
   go_returns
   refine ⟨rfl, ⟨k, HFI.out.2.2⟩, ?_⟩
   refine (hgr.trans (Gf.of hg2 (fun k e _ => Or.inr (Or.inl e)))).trans (Gf.of (grown_set _ _ _ _) (fun k e _ => by cases e; exact Or.inl rfl))
end Go.Proofs.YtjgckfcocmhnhaaGreatDoor.Sr
