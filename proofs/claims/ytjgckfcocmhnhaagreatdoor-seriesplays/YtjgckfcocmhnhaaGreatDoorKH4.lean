/- Texts that the others lean on. -/
import Derived.Test.YtjgckfcocmhnhaaGreatDoorKH1
import Derived.Test.YtjgckfcocmhnhaaGreatDoorKRf
import Derived.BigQuiet
namespace Go.Proofs.YtjgckfcocmhnhaaGreatDoor.Hy
open Go.RowKit
theorem step_append {ops : Array Oper} {o : Oper} {a : Act} {W : World} {K : Act → World → Prop} {Q : Exit → Act → World → Prop} {E : Prop} (s x : Operand) (d : Option Tmp) (t : TypeId)
  (ho : o.op = .call { callee := .builtin .append, args := #[s, x], argTypes := #[t, t] }) (hd : o.dst = d) (hw : Region.wanted o (yielded ops a.tmps) = true)
  (base : Nat) (e : TypeId) (i : TypeInfo) (z : Value) (size bytes : Nat) (ht : Tryz.prog.underlying t = some (.slice e)) (hi : Tryz.prog.info? e = some i) (hz : i.zero = some z)
  (hsize : i.size = size) (hby : i.bytes = bytes) (hzs : z.cells.size = size) (hsz : 0 < size)
  (v : Value) (n : Nat) (xs : List Value) (hs : a.eval s = v) (hown : W.ownsRow base e size v n xs)
  (ad : Addr) (m c : Nat) (news : List Value) (hx : a.eval x = .slice (some ad) m c) (hl : news.length = m * size) (hnews : ∀ j u, news[j]? = some u → W.cell? (ad.add j) = some u) (h1 : ∀ u ∈ news, u.oneCell' = true)
  (h63 : n + m ≤ maxLen) (hbytes : (n + m) * bytes ≤ 140737488355328) (hbase : base ≤ W.heap.size)
  (h : ∀ v' w', w'.ownsRow base e size v' (n + m) (xs ++ news) → W.grownBy w' v.ownBlock → K (a.put d v') w') :
  if Region.wanted o (yielded ops a.tmps) = true then Oper.wp Tryz.prog o a W K Q else E := by
 subst hd
 rw [if_pos hw]
 exact wp_append_own W s x t ho base e i z size bytes ht hi hz hsize hby hzs hsz v n xs hs hown ad m c news hx hl hnews h1 h63 hbytes hbase fun v' w' h2 h3 _ => h v' w' h2 h3
/-- What a value adds to a counter's increase, behind the one ahead of it. -/
def incO (q s : Bool × Int) : Option Int := if fCmp (cnt s.1 s.2) (cnt q.1 q.2) < 0 then cnt s.1 s.2 else fAdd (cnt s.1 s.2) (fNeg (cnt q.1 q.2))
def incN (q s : Bool × Int) : Bool × Int := (ov (incO q s), nn (incO q s))
theorem incO_v (q s : Bool × Int) (h : R64 s.2) : V (incO q s) := by
 unfold incO
 split
 ·
  exact V.cnt h.1 h.2
 ·
  exact V.add _ _
def dls (l : List Smp) (p : Nat) : List (Bool × Int) := (List.range p).map fun j => incN (l.getD j s0).2 (l.getD (j + 1) s0).2
theorem dls_len (l : List Smp) (p : Nat) : (dls l p).length = p := by simp [dls]
theorem dls_snoc (l : List Smp) (p : Nat) : dls l (p + 1) = dls l p ++ [incN (l.getD p s0).2 (l.getD (p + 1) s0).2] := by simp [dls, List.range_succ]
theorem dls_r64 (l : List Smp) (h : ∀ s ∈ l, R64 s.2.2) (p : Nat) (hp : p + 1 ≤ l.length) : ∀ x ∈ dls l p, R64 x.2 := by
 intro x hx
 obtain ⟨j, hj, rfl⟩ := List.mem_map.1 hx
 have hj := List.mem_range.1 hj
 exact V.r64 (incO_v _ _ (h _ (getD_memS (by omega))))
/-- What a counter's samples rose by. -/
def incP (l : List Smp) : Option Int := fSum (cnts (dls l (l.length - 1)))
theorem inum (i n p : Nat) (h : p + 1 = i) (hi : i < n) (hn : n ≤ 100) : Hid (IntKind.i64.wrap ((i : Int) - 1) = (p : Int)) := by
 show _ = _
 rw [wI (by omega) (by omega)]
 omega
set_option maxHeartbeats 8000000 in
theorem inc_val (ao : Option Addr) (n cap : Nat) (l : List Smp) (w : World) (hn : n ≤ 100) (hs : Ms w ao n l) (hl : ∀ s ∈ l, R64 s.2.2) :
  Calls Tryz.prog 80 #[.slice ao n cap] w fun e w' => e = .returned (if n < 2 then .tuple #[.agg #[.bool false, .int .i64 0], .bool false] else .tuple #[.agg #[.bool (ov (incP l)), .int .i64 (nn (incP l))], .bool true]) ∧ Below w.heap.size w w' := by
 obtain ⟨i0, hi, hz0, hz1, hz2⟩ := infoN_parts
 have hb0 := bal (Below.refl _ w) (.cells #[.bool false, .int .i64 0] 33)
 have hx0 := Box.new w false 0
 by_cases h2 : n < 2
 ·
  rw [if_pos h2]
  have d2 : decide ((n : Int) < 2) = true := decide_eq_true (by omega)
  go_enter Tryz.func80, Tryz.ntmps80
  go_wp2
  exact bodyPost_ret (v := .tuple #[.agg #[.bool false, .int .i64 0], .bool false]) (by simp [results, Tryz.results80, go_sem]) rfl ⟨rfl, hb0⟩
 ·
  rw [if_neg h2]
  have d2 : decide ((n : Int) < 2) = false := decide_eq_false (by omega)
  obtain ⟨hla, hca⟩ := hs
  have HA : Hid (l.length = n) := hla
  obtain ⟨b, off, rfl, hc⟩ := hca (by omega)
  have HC : Hid (∀ W, Below w.heap.size w W → ∀ j, j < n → W.cell? ⟨b, off + j * 3 + 1, none⟩ = some (.bool (l.getD j s0).2.1) ∧ W.cell? ⟨b, off + j * 3 + 2, none⟩ = some (.int .i64 (l.getD j s0).2.2)) := by
   intro W hW j hj
   obtain ⟨c0, c1, c2⟩ := hc j hj
   exact ⟨(hW.cell (World.block_lt_of_cell? _ _ c1)).trans c1, (hW.cell (World.block_lt_of_cell? _ _ c2)).trans c2⟩
  have HRD : Hid (∀ p, p + 1 ≤ n → ∀ x ∈ dls l p, R64 x.2) := fun p hp => dls_r64 l hl p (by rw [HA.out]; exact hp)
  have HIP : Hid (incP l = fSum (cnts (dls l (n - 1)))) := by rw [← HA.out]; rfl
  have HR : Hid (∀ j, j < n → R64 (l.getD j s0).2.2) := fun j hj => hl _ (getD_memS (by rw [HA.out]; exact hj))
  clear hla hca hc hl
  go_enter Tryz.func80, Tryz.ntmps80
  go_wp2_with fail
  go_loopw [5, 4] (fun t v wr => ∃ (p i : Nat) (D : List (Bool × Int)) (vd : Value), Hid (p + 1 = i ∧ i ≤ n ∧ D = dls l p) ∧ t = .int .i64 i ∧ vd = v ∧ OwnN wr (w.heap.size + 1) vd D ∧ Box wr w.heap.size false 0 ∧ Below w.heap.size w wr) (fun t _ _ => n - (intOf t).toNat)
  case atStart => exact ⟨0, 1, [], _, ⟨rfl, by omega, rfl⟩, rfl, rfl, ⟨rfl, Or.inl ⟨rfl, rfl⟩⟩, hx0, hb0⟩
  case round =>
   obtain ⟨p, i, D, vd, HP, rfl, hvd, ho, hX, hb⟩ := hrel
   subst hvd
   obtain ⟨hpi, hin, hDe⟩ := HP.out
   have hDl : D.length = p := by rw [hDe, dls_len]
   clear hDe
   by_cases hlt : i < n
   ·
    have hd : decide ((i : Int) < (n : Int)) = true := decide_eq_true (by omega)
    have hpn : p < n := by omega
    have EP := inum i n p hpi hlt hn
    have HZ : Hid (∀ W, Below w.heap.size w W → W.cell? ⟨b, off + i * 3 + 1, none⟩ = some (.bool (l.getD i s0).2.1) ∧ W.cell? ⟨b, off + i * 3 + 2, none⟩ = some (.int .i64 (l.getD i s0).2.2) ∧ W.cell? ⟨b, off + p * 3 + 1, none⟩ = some (.bool (l.getD p s0).2.1) ∧ W.cell? ⟨b, off + p * 3 + 2, none⟩ = some (.int .i64 (l.getD p s0).2.2)) :=
     fun W hW => ⟨(HC.out W hW i hlt).1, (HC.out W hW i hlt).2, (HC.out W hW p hpn).1, (HC.out W hW p hpn).2⟩
    have HD1 : Hid (D ++ [incN (l.getD p s0).2 (l.getD i s0).2] = dls l i) := by
     show _ = _
     rw [HP.out.2.2, ← hpi, dls_snoc]
    have hr1 := HR.out i hlt
    have hr2 := HR.out p hpn
    obtain ⟨z0, z1, z2, z3⟩ := HZ.out _ (hb.trans (Below.refl _ _).drew)
    generalize l.getD i s0 = s at *
    generalize l.getD p s0 = q at *
    obtain ⟨s0', s1, s2⟩ := s
    obtain ⟨t0, t1, t2⟩ := q
    dsimp only at *
    have hmx : n - (i + 1) < n - i := by omega
    have hi1 : i + 1 ≤ n := hlt
    have hDm : D.length + 1 ≤ 101 := by omega
    clear hDl hpi hin
    go_wp2_with fail
    obtain ⟨CB, hCB⟩ : ∃ CB : Bool, decide (fCmp (cnt s1 s2) (cnt t1 t2) < 0) = CB := ⟨_, rfl⟩
    have EC : Hid (decide (fCmp (cnt s1 s2) (cnt t1 t2) < 0) = CB) := hCB
    clear hCB
    have hS0 : (fun W : World => W.cell? ⟨b, off + i * 3 + 1, none⟩ = some (Value.bool s1) ∧ W.cell? ⟨b, off + i * 3 + 2, none⟩ = some (Value.int .i64 s2) ∧ W.cell? ⟨b, off + p * 3 + 1, none⟩ = some (Value.bool t1) ∧ W.cell? ⟨b, off + p * 3 + 2, none⟩ = some (Value.int .i64 t2)) _ := ⟨z0, z1, z2, z3⟩
    refine wp_region_noPanic ?_
    refine wp_region_held_drew (S := fun W : World => W.cell? ⟨b, off + i * 3 + 1, none⟩ = some (Value.bool s1) ∧ W.cell? ⟨b, off + i * 3 + 2, none⟩ = some (Value.int .i64 s2) ∧ W.cell? ⟨b, off + p * 3 + 1, none⟩ = some (Value.bool t1) ∧ W.cell? ⟨b, off + p * 3 + 2, none⟩ = some (Value.int .i64 t2)) (by kernel_rfl) hS0 (fun _ => ?_)
    refine take_at 0 (some 16) (.slice (some ⟨b, off, none⟩) n cap) rfl rfl (by kernel_rfl) (by kernel_rfl) (by kernel_rfl) (fun _ _ _ h => h) (by rfl) (fun W hSw => by obtain ⟨q0, q1, q2, q3⟩ := hSw; go_simp <;> exact EP.out) hS0 ?_
    simp only [Act.put, List.setIfInBounds_toArray, List.set_cons_zero, List.set_cons_succ]
    refine take_at 1 (some 17) (.int .i64 i) rfl rfl (by kernel_rfl) (by kernel_rfl) (by kernel_rfl) (fun _ _ _ h => h) (by rfl) (fun W hSw => by obtain ⟨q0, q1, q2, q3⟩ := hSw; go_simp <;> exact EP.out) hS0 ?_
    simp only [Act.put, List.setIfInBounds_toArray, List.set_cons_zero, List.set_cons_succ]
    refine take_at 2 (some 18) (.pointer (some ⟨b, off + i * 3, none⟩)) rfl rfl (by kernel_rfl) (by kernel_rfl) (by kernel_rfl) (fun _ _ _ h => h) (by rfl) (fun W hSw => by obtain ⟨q0, q1, q2, q3⟩ := hSw; go_simp <;> exact EP.out) hS0 ?_
    simp only [Act.put, List.setIfInBounds_toArray, List.set_cons_zero, List.set_cons_succ]
    refine take_at 3 (some 19) (.pointer (some ⟨b, off + i * 3 + 1, none⟩)) rfl rfl (by kernel_rfl) (by kernel_rfl) (by kernel_rfl) (fun _ _ _ h => h) (by rfl) (fun W hSw => by obtain ⟨q0, q1, q2, q3⟩ := hSw; go_simp <;> exact EP.out) hS0 ?_
    simp only [Act.put, List.setIfInBounds_toArray, List.set_cons_zero, List.set_cons_succ]
    refine take_at 4 (some 20) (.agg #[.bool s1, .int .i64 s2]) rfl rfl (by kernel_rfl) (by kernel_rfl) (by kernel_rfl) (fun _ _ _ h => h) (by rfl) (fun W hSw => by obtain ⟨q0, q1, q2, q3⟩ := hSw; go_simp <;> exact EP.out) hS0 ?_
    simp only [Act.put, List.setIfInBounds_toArray, List.set_cons_zero, List.set_cons_succ]
    refine take_at 5 (some 21) (.slice (some ⟨b, off, none⟩) n cap) rfl rfl (by kernel_rfl) (by kernel_rfl) (by kernel_rfl) (fun _ _ _ h => h) (by rfl) (fun W hSw => by obtain ⟨q0, q1, q2, q3⟩ := hSw; go_simp <;> exact EP.out) hS0 ?_
    simp only [Act.put, List.setIfInBounds_toArray, List.set_cons_zero, List.set_cons_succ]
    refine take_at 6 (some 22) (.int .i64 i) rfl rfl (by kernel_rfl) (by kernel_rfl) (by kernel_rfl) (fun _ _ _ h => h) (by rfl) (fun W hSw => by obtain ⟨q0, q1, q2, q3⟩ := hSw; go_simp <;> exact EP.out) hS0 ?_
    simp only [Act.put, List.setIfInBounds_toArray, List.set_cons_zero, List.set_cons_succ]
    refine take_at 7 (some 23) (.int .i64 p) rfl rfl (by kernel_rfl) (by kernel_rfl) (by kernel_rfl) (fun _ _ _ h => h) (by rfl) (fun W hSw => by obtain ⟨q0, q1, q2, q3⟩ := hSw; go_simp <;> exact EP.out) hS0 ?_
    simp only [Act.put, List.setIfInBounds_toArray, List.set_cons_zero, List.set_cons_succ]
    refine take_at 8 (some 24) (.pointer (some ⟨b, off + p * 3, none⟩)) rfl rfl (by kernel_rfl) (by kernel_rfl) (by kernel_rfl) (fun _ _ _ h => h) (by rfl) (fun W hSw => by obtain ⟨q0, q1, q2, q3⟩ := hSw; go_simp <;> exact EP.out) hS0 ?_
    simp only [Act.put, List.setIfInBounds_toArray, List.set_cons_zero, List.set_cons_succ]
    refine take_at 9 (some 25) (.pointer (some ⟨b, off + p * 3 + 1, none⟩)) rfl rfl (by kernel_rfl) (by kernel_rfl) (by kernel_rfl) (fun _ _ _ h => h) (by rfl) (fun W hSw => by obtain ⟨q0, q1, q2, q3⟩ := hSw; go_simp <;> exact EP.out) hS0 ?_
    simp only [Act.put, List.setIfInBounds_toArray, List.set_cons_zero, List.set_cons_succ]
    refine take_at 10 (some 26) (.agg #[.bool t1, .int .i64 t2]) rfl rfl (by kernel_rfl) (by kernel_rfl) (by kernel_rfl) (fun _ _ _ h => h) (by rfl) (fun W hSw => by obtain ⟨q0, q1, q2, q3⟩ := hSw; go_simp <;> exact EP.out) hS0 ?_
    simp only [Act.put, List.setIfInBounds_toArray, List.set_cons_zero, List.set_cons_succ]
    refine wpAnyH_ready (rs := [11]) (by kernel_rfl) (by simp) ?_
    refine AllReadyH.cons rfl (fun K hK => ?_) AllReadyH.nil
    go_simp
    refine (rcmp_any s1 t1 s2 t2 _ hr1 hr2).mono ?_
    rintro e w1 ⟨rfl, hb1⟩
    obtain ⟨y0, y1, y2, y3⟩ := HZ.out _ (Below.chain (hb.trans (Below.refl _ _).drew) hb1)
    have hS1 := (⟨y0, y1, y2, y3⟩ : (fun W : World => W.cell? ⟨b, off + i * 3 + 1, none⟩ = some (Value.bool s1) ∧ W.cell? ⟨b, off + i * 3 + 2, none⟩ = some (Value.int .i64 s2) ∧ W.cell? ⟨b, off + p * 3 + 1, none⟩ = some (Value.bool t1) ∧ W.cell? ⟨b, off + p * 3 + 2, none⟩ = some (Value.int .i64 t2)) w1)
    refine hK.out _ _ hS1 (fun _ => ?_)
    clear hK K
    refine take_at 12 (some 28) (.bool CB) rfl rfl (by kernel_rfl) (by kernel_rfl) (by kernel_rfl) (fun _ _ _ h => h) (by rfl) (fun W hSw => by go_simp <;> exact EC.out) hS1 ?_
    simp only [Act.put, List.setIfInBounds_toArray, List.set_cons_zero, List.set_cons_succ]
    refine wpAnyH_done (by kernel_rfl) ?_ _
    refine NoPanic.normal ?_
    have hbc := Below.chain (hb.trans (Below.refl _ _).drew) hb1
    have hoc := (ho.later (Below.refl _ wr).drew).later hb1
    have hX := (hX.later (Below.refl _ wr).drew).later hb1
    clear z0 z1 z2 z3 hb ho
    cases CB with
    | true =>
     obtain ⟨x0, x1, _, _⟩ := HZ.out _ hbc
     have HV : Hid (incN (t1, t2) (s1, s2) = (ov (cnt s1 s2), nn (cnt s1 s2))) := by
      show (ov (incO _ _), nn (incO _ _)) = _
      unfold incO
      rw [if_pos (of_decide_eq_true EC.out)]
     have hno := fun W => rnorm_any s1 s2 W hr1
     have hq : R64 (nn (cnt s1 s2)) := V.r64 (V.cnt hr1.1 hr1.2)
     generalize ov (cnt s1 s2) = fo at *
     generalize nn (cnt s1 s2) = fn at *
     go_wp2_with fail
     refine (hno _).mono ?_
     rintro e w2 ⟨rfl, hb2⟩
     have hx3 := Box.new w2 fo fn
     have hb3 := bal (Below.chain hbc hb2) (.cells #[.bool fo, .int .i64 fn] 33)
     have ho3 := (hoc.later hb2).later (bal (Below.refl _ _) (.cells #[.bool fo, .int .i64 fn] 33))
     have hX3 := (hX.later hb2).later (bal (Below.refl _ _) (.cells #[.bool fo, .int .i64 fn] 33))
     have hsz : w.heap.size + 1 ≤ (w2.alloc (.cells #[.bool fo, .int .i64 fn] 33)).heap.size := by have := hX3.lt; omega
     go_wp2_with (at_builtin; go_must (refine wpList_append_own _ rfl _ _ 50 rfl (w.heap.size + 1) 33 i0 (.agg #[.bool false, .int .i64 0]) 2 16 Tryz.underlying50 hi hz0 hz1 hz2 zeroN (by decide) _ _ _ rfl ho3 ⟨w2.heap.size, 0, none⟩ 1 1 (cellsN [(fo, fn)]) rfl rfl ?hnews (cellsN_one _) ?h63 ?hby ?hbs ?_))
     case hnews => exact fun i u hu => Box.cellsN (x := (fo, fn)) hx3 i u hu
     case h63 => unfold maxLen; omega
     case hby => omega
     case hbs => exact hsz
     intro v4 w4 ho4 hg4 _
     have hX4 := hX3.kept hg4 (fun e => by have := (World.ownsRow.lt ho3 _ e.symm).1; omega)
     have hb4 := hb3.grown hg4 hb3.size (fun k hk => by have := (World.ownsRow.lt ho3 k hk).1; omega)
     go_wp2
     go_roundw
     case rel => exact ⟨i, i + 1, _, _, ⟨rfl, hi1, by rw [← HV.out]; exact HD1.out⟩, by go_num, rfl, OwnN.snoc ho4, hX4, hb4⟩
     case measure => simp [intOf]; omega
    | false =>
     have hq : R64 (nn (fAdd (cnt s1 s2) (fNeg (cnt t1 t2)))) := V.r64 (V.add _ _)
     have HV : Hid (incN (t1, t2) (s1, s2) = (ov (fAdd (cnt s1 s2) (fNeg (cnt t1 t2))), nn (fAdd (cnt s1 s2) (fNeg (cnt t1 t2))))) := by
      show (ov (incO _ _), nn (incO _ _)) = _
      unfold incO
      rw [if_neg (of_decide_eq_false EC.out)]
     have hsb := fun W => rsub_any s1 t1 s2 t2 W hr1 hr2
     generalize ov (fAdd (cnt s1 s2) (fNeg (cnt t1 t2))) = fo at *
     generalize nn (fAdd (cnt s1 s2) (fNeg (cnt t1 t2))) = fn at *
     go_wp2_with fail
     have hbd := hbc.trans (Below.refl _ _).drew
     have hod := hoc.later (Below.refl _ w1).drew
     have hX := hX.later (Below.refl _ w1).drew
     obtain ⟨v0, v1, v2, v3⟩ := HZ.out _ hbd
     have hS0 : (fun W : World => W.cell? ⟨b, off + i * 3 + 1, none⟩ = some (Value.bool s1) ∧ W.cell? ⟨b, off + i * 3 + 2, none⟩ = some (Value.int .i64 s2) ∧ W.cell? ⟨b, off + p * 3 + 1, none⟩ = some (Value.bool t1) ∧ W.cell? ⟨b, off + p * 3 + 2, none⟩ = some (Value.int .i64 t2)) _ := ⟨v0, v1, v2, v3⟩
     refine wp_region_noPanic ?_
     refine wp_region_held_drew (S := fun W : World => W.cell? ⟨b, off + i * 3 + 1, none⟩ = some (Value.bool s1) ∧ W.cell? ⟨b, off + i * 3 + 2, none⟩ = some (Value.int .i64 s2) ∧ W.cell? ⟨b, off + p * 3 + 1, none⟩ = some (Value.bool t1) ∧ W.cell? ⟨b, off + p * 3 + 2, none⟩ = some (Value.int .i64 t2)) (by kernel_rfl) hS0 (fun _ => ?_)
     refine take_at 0 (some 38) (vd) rfl rfl (by kernel_rfl) (by kernel_rfl) (by kernel_rfl) (fun _ _ _ h => h) (by rfl) (fun W hSw => by obtain ⟨q0, q1, q2, q3⟩ := hSw; go_simp <;> exact EP.out) hS0 ?_
     simp only [Act.put, List.setIfInBounds_toArray, List.set_cons_zero, List.set_cons_succ]
     refine take_at 1 (some 39) (.slice (some ⟨b, off, none⟩) n cap) rfl rfl (by kernel_rfl) (by kernel_rfl) (by kernel_rfl) (fun _ _ _ h => h) (by rfl) (fun W hSw => by obtain ⟨q0, q1, q2, q3⟩ := hSw; go_simp <;> exact EP.out) hS0 ?_
     simp only [Act.put, List.setIfInBounds_toArray, List.set_cons_zero, List.set_cons_succ]
     refine take_at 2 (some 40) (.int .i64 i) rfl rfl (by kernel_rfl) (by kernel_rfl) (by kernel_rfl) (fun _ _ _ h => h) (by rfl) (fun W hSw => by obtain ⟨q0, q1, q2, q3⟩ := hSw; go_simp <;> exact EP.out) hS0 ?_
     simp only [Act.put, List.setIfInBounds_toArray, List.set_cons_zero, List.set_cons_succ]
     refine take_at 3 (some 41) (.pointer (some ⟨b, off + i * 3, none⟩)) rfl rfl (by kernel_rfl) (by kernel_rfl) (by kernel_rfl) (fun _ _ _ h => h) (by rfl) (fun W hSw => by obtain ⟨q0, q1, q2, q3⟩ := hSw; go_simp <;> exact EP.out) hS0 ?_
     simp only [Act.put, List.setIfInBounds_toArray, List.set_cons_zero, List.set_cons_succ]
     refine take_at 4 (some 42) (.pointer (some ⟨b, off + i * 3 + 1, none⟩)) rfl rfl (by kernel_rfl) (by kernel_rfl) (by kernel_rfl) (fun _ _ _ h => h) (by rfl) (fun W hSw => by obtain ⟨q0, q1, q2, q3⟩ := hSw; go_simp <;> exact EP.out) hS0 ?_
     simp only [Act.put, List.setIfInBounds_toArray, List.set_cons_zero, List.set_cons_succ]
     refine take_at 5 (some 43) (.agg #[.bool s1, .int .i64 s2]) rfl rfl (by kernel_rfl) (by kernel_rfl) (by kernel_rfl) (fun _ _ _ h => h) (by rfl) (fun W hSw => by obtain ⟨q0, q1, q2, q3⟩ := hSw; go_simp <;> exact EP.out) hS0 ?_
     simp only [Act.put, List.setIfInBounds_toArray, List.set_cons_zero, List.set_cons_succ]
     refine take_at 6 (some 44) (.slice (some ⟨b, off, none⟩) n cap) rfl rfl (by kernel_rfl) (by kernel_rfl) (by kernel_rfl) (fun _ _ _ h => h) (by rfl) (fun W hSw => by obtain ⟨q0, q1, q2, q3⟩ := hSw; go_simp <;> exact EP.out) hS0 ?_
     simp only [Act.put, List.setIfInBounds_toArray, List.set_cons_zero, List.set_cons_succ]
     refine take_at 7 (some 45) (.int .i64 i) rfl rfl (by kernel_rfl) (by kernel_rfl) (by kernel_rfl) (fun _ _ _ h => h) (by rfl) (fun W hSw => by obtain ⟨q0, q1, q2, q3⟩ := hSw; go_simp <;> exact EP.out) hS0 ?_
     simp only [Act.put, List.setIfInBounds_toArray, List.set_cons_zero, List.set_cons_succ]
     refine take_at 8 (some 46) (.int .i64 p) rfl rfl (by kernel_rfl) (by kernel_rfl) (by kernel_rfl) (fun _ _ _ h => h) (by rfl) (fun W hSw => by obtain ⟨q0, q1, q2, q3⟩ := hSw; go_simp <;> exact EP.out) hS0 ?_
     simp only [Act.put, List.setIfInBounds_toArray, List.set_cons_zero, List.set_cons_succ]
     refine take_at 9 (some 47) (.pointer (some ⟨b, off + p * 3, none⟩)) rfl rfl (by kernel_rfl) (by kernel_rfl) (by kernel_rfl) (fun _ _ _ h => h) (by rfl) (fun W hSw => by obtain ⟨q0, q1, q2, q3⟩ := hSw; go_simp <;> exact EP.out) hS0 ?_
     simp only [Act.put, List.setIfInBounds_toArray, List.set_cons_zero, List.set_cons_succ]
     refine take_at 10 (some 48) (.pointer (some ⟨b, off + p * 3 + 1, none⟩)) rfl rfl (by kernel_rfl) (by kernel_rfl) (by kernel_rfl) (fun _ _ _ h => h) (by rfl) (fun W hSw => by obtain ⟨q0, q1, q2, q3⟩ := hSw; go_simp <;> exact EP.out) hS0 ?_
     simp only [Act.put, List.setIfInBounds_toArray, List.set_cons_zero, List.set_cons_succ]
     refine take_at 11 (some 49) (.agg #[.bool t1, .int .i64 t2]) rfl rfl (by kernel_rfl) (by kernel_rfl) (by kernel_rfl) (fun _ _ _ h => h) (by rfl) (fun W hSw => by obtain ⟨q0, q1, q2, q3⟩ := hSw; go_simp <;> exact EP.out) hS0 ?_
     simp only [Act.put, List.setIfInBounds_toArray, List.set_cons_zero, List.set_cons_succ]
     refine wpAnyH_ready (rs := [12]) (by kernel_rfl) (by simp) ?_
     refine AllReadyH.cons rfl (fun K hK => ?_) AllReadyH.nil
     go_simp
     refine (hsb _).mono ?_
     rintro e w2 ⟨rfl, hb2⟩
     have hb2c := Below.chain hbd hb2
     obtain ⟨y0, y1, y2, y3⟩ := HZ.out _ hb2c
     have hS2 := (⟨y0, y1, y2, y3⟩ : (fun W : World => W.cell? ⟨b, off + i * 3 + 1, none⟩ = some (Value.bool s1) ∧ W.cell? ⟨b, off + i * 3 + 2, none⟩ = some (Value.int .i64 s2) ∧ W.cell? ⟨b, off + p * 3 + 1, none⟩ = some (Value.bool t1) ∧ W.cell? ⟨b, off + p * 3 + 2, none⟩ = some (Value.int .i64 t2)) w2)
     refine hK.out _ _ hS2 (fun _ => ?_)
     clear hK K
     have hx3 := Box.new w2 fo fn
     have hb3 := bal hb2c (.cells #[.bool fo, .int .i64 fn] 33)
     have ho3 := (hod.later hb2).later (bal (Below.refl _ _) (.cells #[.bool fo, .int .i64 fn] 33))
     have hX3 := (hX.later hb2).later (bal (Below.refl _ _) (.cells #[.bool fo, .int .i64 fn] 33))
     obtain ⟨u0, u1, u2, u3⟩ := HZ.out _ hb3
     refine wpAnyH_ready (rs := [13]) (by kernel_rfl) (by simp) ?_
     refine AllReadyH.cons rfl (fun K hK => ?_) AllReadyH.nil
     go_simp
     have hS3 := (⟨u0, u1, u2, u3⟩ : (fun W : World => W.cell? ⟨b, off + i * 3 + 1, none⟩ = some (Value.bool s1) ∧ W.cell? ⟨b, off + i * 3 + 2, none⟩ = some (Value.int .i64 s2) ∧ W.cell? ⟨b, off + p * 3 + 1, none⟩ = some (Value.bool t1) ∧ W.cell? ⟨b, off + p * 3 + 2, none⟩ = some (Value.int .i64 t2)) (w2.alloc (.cells #[.bool fo, .int .i64 fn] 33)))
     refine hK.out _ _ hS3 (fun _ => ?_)
     clear hK K
     have hsz : w.heap.size + 1 ≤ (w2.alloc (.cells #[.bool fo, .int .i64 fn] 33)).heap.size := by have := hX3.lt; omega
     refine wpAnyH_ready (rs := [14]) (by kernel_rfl) (by simp) ?_
     refine AllReadyH.cons rfl (fun K hK => ?_) AllReadyH.nil
     refine step_append _ _ (some 52) 50 rfl rfl (by rfl) (w.heap.size + 1) 33 i0 (.agg #[.bool false, .int .i64 0]) 2 16 Tryz.underlying50 hi hz0 hz1 hz2 zeroN (by decide) vd _ _ rfl ho3 ⟨w2.heap.size, 0, none⟩ 1 1 (cellsN [(fo, fn)]) rfl rfl (fun q u hu => Box.cellsN (x := (fo, fn)) hx3 q u hu) (cellsN_one _) (by unfold maxLen; omega) (by omega) hsz ?_
     intro v4 w4 ho4 hg4
     have hX4 := hX3.kept hg4 (fun e => by have := (World.ownsRow.lt ho3 _ e.symm).1; omega)
     have hb4 := hb3.grown hg4 hb3.size (fun k hk => by have := (World.ownsRow.lt ho3 k hk).1; omega)
     obtain ⟨u0, u1, u2, u3⟩ := HZ.out _ hb4
     have hS4 := (⟨u0, u1, u2, u3⟩ : (fun W : World => W.cell? ⟨b, off + i * 3 + 1, none⟩ = some (Value.bool s1) ∧ W.cell? ⟨b, off + i * 3 + 2, none⟩ = some (Value.int .i64 s2) ∧ W.cell? ⟨b, off + p * 3 + 1, none⟩ = some (Value.bool t1) ∧ W.cell? ⟨b, off + p * 3 + 2, none⟩ = some (Value.int .i64 t2)) w4)
     refine hK.out _ _ hS4 (fun _ => ?_)
     clear hK K
     refine take_at 15 (some 4) (v4) rfl rfl (by kernel_rfl) (by kernel_rfl) (by kernel_rfl) (fun _ _ _ h => h) (by rfl) (fun W hSw => by obtain ⟨q0, q1, q2, q3⟩ := hSw; go_simp <;> exact EP.out) hS4 ?_
     simp only [Act.put, List.setIfInBounds_toArray, List.set_cons_zero, List.set_cons_succ]
     refine wpAnyH_done (by kernel_rfl) ?_ _
     refine NoPanic.normal ?_
     go_wp2
     go_roundw
     case rel => exact ⟨i, i + 1, _, _, ⟨rfl, hi1, by rw [← HV.out]; exact HD1.out⟩, by go_num, rfl, OwnN.snoc ho4, hX4, hb4⟩
     case measure => simp [intOf]; omega
   ·
    have hd : decide ((i : Int) < (n : Int)) = false := decide_eq_false (by omega)
    obtain rfl : i = n := by omega
    have hDr := HRD.out p (by omega)
    rw [← HP.out.2.2] at hDr
    have HIQ : Hid (incP l = fSum (cnts D)) := by show _ = _; rw [HIP.out, HP.out.2.2, show i - 1 = p by omega]
    obtain ⟨ao, cp, rfl, hns⟩ := ho.slice
    have hsu := fun W hW => rsum_any ao D.length cp D W (by omega) hW hDr
    have HOV : Hid (ov (incP l) = ov (fSum (cnts D)) ∧ nn (incP l) = nn (fSum (cnts D))) := by rw [HIQ.out]; exact ⟨rfl, rfl⟩
    generalize ov (fSum (cnts D)) = fo at *
    generalize nn (fSum (cnts D)) = fn at *
    generalize D.length = dn at *
    clear hDl hpi hin HP
    go_wp2_with fail
    refine (hsu _ hns).mono ?_
    rintro e w1 ⟨rfl, hb1⟩
    have hx1 := hX.later hb1
    obtain ⟨c0, c1, g0, g1⟩ := id hx1
    obtain ⟨p0, p1, _, _⟩ := hx1.put (p := fo) (m := fn)
    go_wp2
    exact bodyPost_ret (v := .tuple #[.agg #[.bool fo, .int .i64 fn], .bool true]) (by simp [results, Tryz.results80, go_sem, p0, p1]) rfl ⟨by rw [HOV.out.1, HOV.out.2], put2 (Below.chain hb hb1) (Nat.le_refl _) _ _⟩
end Go.Proofs.YtjgckfcocmhnhaaGreatDoor.Hy
namespace Go.Proofs.YtjgckfcocmhnhaaGreatDoor.Hy
open Go.RowKit
/-- Which of two is kept. -/
def exS (g : Bool) (p x : Bool × Int) : Bool × Int := if (if g = true then decide (0 < fCmp (cnt x.1 x.2) (cnt p.1 p.2)) else decide (fCmp (cnt x.1 x.2) (cnt p.1 p.2) < 0)) = true then x else p
def exQ (g : Bool) (l : List (Bool × Int)) : Nat → Bool × Int
 | 0 => l.getD 0 (false, 0)
 | p + 1 => exS g (exQ g l p) (l.getD (p + 1) (false, 0))
theorem getD_memM {l : List (Bool × Int)} {j : Nat} (h : j < l.length) : l.getD j (false, 0) ∈ l := by
 rw [List.getD_eq_getElem?_getD, List.getElem?_eq_getElem h]
 exact List.getElem_mem h
theorem exS_t1 {p x : Bool × Int} {c : Int} (h : fCmp (cnt x.1 x.2) (cnt p.1 p.2) = c) (hk : 0 < c) : exS true p x = x := by
 unfold exS
 rw [h]
 simp [hk]
theorem exS_t0 {p x : Bool × Int} {c : Int} (h : fCmp (cnt x.1 x.2) (cnt p.1 p.2) = c) (hk : ¬ 0 < c) : exS true p x = p := by
 unfold exS
 rw [h]
 simp [hk]
theorem exS_f1 {p x : Bool × Int} {c : Int} (h : fCmp (cnt x.1 x.2) (cnt p.1 p.2) = c) (hk : c < 0) : exS false p x = x := by
 unfold exS
 rw [h]
 simp [hk]
theorem exS_f0 {p x : Bool × Int} {c : Int} (h : fCmp (cnt x.1 x.2) (cnt p.1 p.2) = c) (hk : ¬ c < 0) : exS false p x = p := by
 unfold exS
 rw [h]
 simp [hk]
theorem exS_or (g : Bool) (p x : Bool × Int) : exS g p x = x ∨ exS g p x = p := by
 unfold exS
 by_cases h : (if g = true then decide (0 < fCmp (cnt x.1 x.2) (cnt p.1 p.2)) else decide (fCmp (cnt x.1 x.2) (cnt p.1 p.2) < 0)) = true
 ·
  exact Or.inl (if_pos h)
 ·
  exact Or.inr (if_neg h)
theorem exQ_r64 (g : Bool) (l : List (Bool × Int)) (h : ∀ x ∈ l, R64 x.2) : ∀ p, p < l.length → R64 (exQ g l p).2
 | 0, hp => by
  show R64 (l.getD 0 (false, 0)).2
  exact h _ (getD_memM hp)
 | p + 1, hp => by
  have a := exQ_r64 g l h p (by omega)
  show R64 (exS g (exQ g l p) (l.getD (p + 1) (false, 0))).2
  rcases exS_or g (exQ g l p) (l.getD (p + 1) (false, 0)) with e | e
  ·
   rw [e]; exact h _ (getD_memM hp)
  ·
   rw [e]; exact a
/-- The greatest, or the least. -/
def exP (g : Bool) (l : List (Bool × Int)) : Option Int := cnt (exQ g l (l.length - 1)).1 (exQ g l (l.length - 1)).2
set_option maxHeartbeats 4000000 in
theorem rext_any (ao : Option Addr) (n cap : Nat) (l : List (Bool × Int)) (G : Bool) (w : World) (hn : 0 < n ∧ n ≤ 1000000) (hs : Ns w ao n l) (hl : ∀ x ∈ l, R64 x.2) :
  Calls Tryz.prog 84 #[.slice ao n cap, .bool G] w fun e w' => e = .returned (.tuple #[.agg #[.bool (ov (exP G l)), .int .i64 (nn (exP G l))], .bool true]) ∧ Below w.heap.size w w' := by
 obtain ⟨hla, hca⟩ := hs
 obtain ⟨b, off, rfl, hc⟩ := hca hn.1
 have HA : Hid (l.length = n) := hla
 have HC0 : Hid (∀ j, j < n → ∀ W, Below w.heap.size w W → W.cell? ⟨b, off + j * 2, none⟩ = some (.bool (l.getD j (false, 0)).1) ∧ W.cell? ⟨b, off + j * 2 + 1, none⟩ = some (.int .i64 (l.getD j (false, 0)).2)) := fun j hj W hW => ⟨(hW.cell (World.block_lt_of_cell? _ _ (hc j hj).1)).trans (hc j hj).1, (hW.cell (World.block_lt_of_cell? _ _ (hc j hj).2)).trans (hc j hj).2⟩
 have HL : Hid (∀ p, p < n → R64 (exQ G l p).2) := fun p hp => exQ_r64 G l hl p (by rw [hla]; exact hp)
 have HX : Hid (∀ j, j < n → R64 (l.getD j (false, 0)).2) := fun j hj => hl _ (getD_memM (by rw [hla]; exact hj))
 have HP : Hid (exP G l = cnt (exQ G l (n - 1)).1 (exQ G l (n - 1)).2) := by show _ = _; unfold exP; rw [hla]
 have hbA := bal (Below.refl _ w) (.cells #[.bool false, .int .i64 0] 33)
 have hxA := Box.new w false 0
 obtain ⟨v0, v1⟩ := HC0.out 0 hn.1 _ hbA
 have H0 : Hid (exQ G l 0 = l.getD 0 (false, 0)) := rfl
 rw [Nat.zero_mul, Nat.add_zero] at v0 v1
 have d0 : ((n : Int) == 0) = false := by rw [beq_eq_false_iff_ne]; omega
 clear hc hla hca hl
 generalize hx0 : l.getD 0 (false, 0) = x0 at *
 clear hx0
 obtain ⟨fo, fn⟩ := x0
 dsimp only at *
 have hbB := bal hbA (.cells #[.bool fo, .int .i64 fn] 33)
 have hxB := Box.new (w.alloc (.cells #[.bool false, .int .i64 0] 33)) fo fn
 have hxA2 := hxA.later (bal (Below.refl _ _) (.cells #[.bool fo, .int .i64 fn] 33))
 go_enter Tryz.func84, Tryz.ntmps84
 go_wp2_with fail
 have hBw : w.heap.size ≤ (w.alloc (.cells #[.bool false, .int .i64 0] 33)).heap.size := hbA.size
 have hAB : (w.alloc (.cells #[.bool false, .int .i64 0] 33)).heap.size ≠ w.heap.size := by simp
 generalize hw2 : (w.alloc (.cells #[.bool false, .int .i64 0] 33)).alloc (.cells #[.bool fo, .int .i64 fn] 33) = w2 at *
 clear hw2
 have e0 : (w.alloc (.cells #[.bool false, .int .i64 0] 33)).heap.size = w.heap.size + 1 := by simp
 rw [e0] at hxB hBw hAB
 generalize hBB : w.heap.size + 1 = B at *
 go_loopw [7] (fun i wr => ∃ (j p : Nat) (po : Bool) (pn : Int), Hid (p + 1 = j ∧ j ≤ n ∧ exQ G l p = (po, pn)) ∧ i = .int .i64 j ∧ Box wr B po pn ∧ Box wr w.heap.size false 0 ∧ Below w.heap.size w wr) (fun i _ => n - (intOf i).toNat)
 case atStart => exact ⟨1, 0, fo, fn, ⟨rfl, by omega, H0.out⟩, rfl, hxB, hxA2, hbB⟩
 case round =>
  clear hxB hxA2 hbB hxA hbA v0 v1
  obtain ⟨j, p, po, pn, HR, rfl, xb0, xa0, hb⟩ := hrel
  obtain ⟨hpj, hj, hQ⟩ := HR.out
  have HQ0 : Hid (exQ G l p = (po, pn)) := hQ
  clear hQ
  by_cases hlt : j < n
  ·
   have hd : decide ((j : Int) < (n : Int)) = true := decide_eq_true (by omega)
   obtain ⟨v0w, v1w⟩ := HC0.out j hlt _ hb
   have hrp : R64 pn := by have := HL.out p (by omega); rw [HQ0.out] at this; exact this
   have hrx := HX.out j hlt
   have HQ : Hid (exQ G l (p + 1) = exS G (po, pn) (l.getD j (false, 0))) := by
    show _ = _
    rw [← hpj, ← HQ0.out]
    rfl
   generalize l.getD j (false, 0) = x at *
   obtain ⟨xo, xn⟩ := x
   dsimp only at *
   have hcm := fun W => rcmp_any xo po xn pn W hrx hrp
   obtain ⟨c, hc⟩ : ∃ c, fCmp (cnt xo xn) (cnt po pn) = c := ⟨_, rfl⟩
   have HC : Hid (fCmp (cnt xo xn) (cnt po pn) = c) := hc
   rw [hc] at hcm
   clear hc
   go_wp2_with fail
   have v0 : wr.drew.cell? ⟨b, off + j * 2, none⟩ = some (Value.bool xo) := v0w
   have v1 : wr.drew.cell? ⟨b, off + j * 2 + 1, none⟩ = some (Value.int .i64 xn) := v1w
   have xb : Box wr.drew B po pn := xb0.later (Below.refl _ _).drew
   have hbd : Below w.heap.size w wr.drew := hb.trans (Below.refl _ _).drew
   have xad : Box wr.drew w.heap.size false 0 := xa0.later (Below.refl _ _).drew
   clear v0w v1w xb0 hb xa0
   have hS0 : (fun W : World => (W.cell? ⟨b, off + j * 2, none⟩ = some (Value.bool xo) ∧ W.cell? ⟨b, off + j * 2 + 1, none⟩ = some (Value.int .i64 xn)) ∧ Box W B po pn) _ := ⟨⟨v0, v1⟩, xb⟩
   refine wp_region_noPanic ?_
   refine wp_region_held_drew (S := fun W : World => (W.cell? ⟨b, off + j * 2, none⟩ = some (Value.bool xo) ∧ W.cell? ⟨b, off + j * 2 + 1, none⟩ = some (Value.int .i64 xn)) ∧ Box W B po pn) (by kernel_rfl) hS0 (fun _ => ?_)
   refine take_at 0 (some 22) (.slice (some ⟨b, off, none⟩) n cap) rfl rfl (by kernel_rfl) (by kernel_rfl) (by kernel_rfl) (fun _ _ _ h => h) (by rfl) (fun W hSw => by obtain ⟨⟨q0, q1⟩, ⟨q2, q3, _, _⟩⟩ := hSw; go_simp) hS0 ?_
   simp only [Act.put, List.setIfInBounds_toArray, List.set_cons_zero, List.set_cons_succ]
   refine take_at 1 (some 23) (.int .i64 j) rfl rfl (by kernel_rfl) (by kernel_rfl) (by kernel_rfl) (fun _ _ _ h => h) (by rfl) (fun W hSw => by obtain ⟨⟨q0, q1⟩, ⟨q2, q3, _, _⟩⟩ := hSw; go_simp) hS0 ?_
   simp only [Act.put, List.setIfInBounds_toArray, List.set_cons_zero, List.set_cons_succ]
   refine take_at 2 (some 24) (.pointer (some ⟨b, off + j * 2, none⟩)) rfl rfl (by kernel_rfl) (by kernel_rfl) (by kernel_rfl) (fun _ _ _ h => h) (by rfl) (fun W hSw => by obtain ⟨⟨q0, q1⟩, ⟨q2, q3, _, _⟩⟩ := hSw; go_simp; try (intro hh; exfalso; omega)) hS0 ?_
   simp only [Act.put, List.setIfInBounds_toArray, List.set_cons_zero, List.set_cons_succ]
   refine take_at 3 (some 25) (.agg #[.bool xo, .int .i64 xn]) rfl rfl (by kernel_rfl) (by kernel_rfl) (by kernel_rfl) (fun _ _ _ h => h) (by rfl) (fun W hSw => by obtain ⟨⟨q0, q1⟩, ⟨q2, q3, _, _⟩⟩ := hSw; go_simp) hS0 ?_
   simp only [Act.put, List.setIfInBounds_toArray, List.set_cons_zero, List.set_cons_succ]
   refine take_at 4 (some 26) (.agg #[.bool po, .int .i64 pn]) rfl rfl (by kernel_rfl) (by kernel_rfl) (by kernel_rfl) (fun _ _ _ h => h) (by rfl) (fun W hSw => by obtain ⟨⟨q0, q1⟩, ⟨q2, q3, _, _⟩⟩ := hSw; go_simp) hS0 ?_
   simp only [Act.put, List.setIfInBounds_toArray, List.set_cons_zero, List.set_cons_succ]
   refine wpAnyH_ready (rs := [5]) (by kernel_rfl) (by simp) ?_
   refine AllReadyH.cons rfl (fun K hK => ?_) AllReadyH.nil
   go_simp
   refine (hcm _).mono ?_
   rintro e w3 ⟨rfl, hb3⟩
   have xb3 := xb.later hb3
   have v03 := (hb3.cell (World.block_lt_of_cell? _ _ v0)).trans v0
   have v13 := (hb3.cell (World.block_lt_of_cell? _ _ v1)).trans v1
   have hS3 := (⟨⟨v03, v13⟩, xb3⟩ : (fun W : World => (W.cell? ⟨b, off + j * 2, none⟩ = some (Value.bool xo) ∧ W.cell? ⟨b, off + j * 2 + 1, none⟩ = some (Value.int .i64 xn)) ∧ Box W B po pn) w3)
   refine hK.out _ _ hS3 (fun _ => ?_)
   clear hK K
   refine take_at 6 (some 8) (.int .i64 c) rfl rfl (by kernel_rfl) (by kernel_rfl) (by kernel_rfl) (fun _ _ _ h => h) (by rfl) (fun W hSw => by obtain ⟨⟨q0, q1⟩, ⟨q2, q3, _, _⟩⟩ := hSw; go_simp) hS3 ?_
   simp only [Act.put, List.setIfInBounds_toArray, List.set_cons_zero, List.set_cons_succ]
   refine wpAnyH_done (by kernel_rfl) ?_ _
   refine NoPanic.normal ?_
   have hb4 := Below.chain hbd hb3
   have xa3 := xad.later hb3
   clear xad
   have z0 := v03
   have z1 := v13
   clear hS0 hS3 v0 v1 xb v03 v13 hcm hrp hrx
   cases G with
   | true =>
    by_cases hk : 0 < c
    ·
     have HV : Hid (exQ true l (p + 1) = (xo, xn)) := HQ.out.trans (exS_t1 HC.out hk)
     have d1 : decide (0 < c) = true := decide_eq_true hk
     have d2 : decide (c < 0) = false := decide_eq_false (by omega)
     have hbz := put2 hb4 hBw xo xn
     have xbz := (xb3.put (p := xo) (m := xn))
     have xaz : Box ((w3.setCell ⟨B, 0, none⟩ (.bool xo)).setCell ⟨B, 1, none⟩ (.int .i64 xn)) w.heap.size false 0 := xa3.put_other hAB
     obtain ⟨m0, m1, l0, l1⟩ := id xb3
     clear hk HQ HC
     go_wp2_with fail
     go_roundw
     case rel => exact ⟨j + 1, p + 1, xo, xn, ⟨by omega, by omega, HV.out⟩, by go_num, xbz, xaz, hbz⟩
     case measure => simp [intOf]; omega
    ·
     have HV : Hid (exQ true l (p + 1) = (po, pn)) := HQ.out.trans (exS_t0 HC.out hk)
     have d1 : decide (0 < c) = false := decide_eq_false hk
     by_cases hh : c < 0
     ·
      have d2 : decide (c < 0) = true := decide_eq_true hh
      clear hh
      clear hk HQ HC
      go_wp2_with fail
      go_roundw
      case rel => exact ⟨j + 1, p + 1, po, pn, ⟨by omega, by omega, HV.out⟩, by go_num, xb3, xa3, hb4⟩
      case measure => simp [intOf]; omega
     ·
      have d2 : decide (c < 0) = false := decide_eq_false hh
      clear hh
      clear hk HQ HC
      go_wp2_with fail
      go_roundw
      case rel => exact ⟨j + 1, p + 1, po, pn, ⟨by omega, by omega, HV.out⟩, by go_num, xb3, xa3, hb4⟩
      case measure => simp [intOf]; omega
   | false =>
    by_cases hk : c < 0
    ·
     have HV : Hid (exQ false l (p + 1) = (xo, xn)) := HQ.out.trans (exS_f1 HC.out hk)
     have d1 : decide (0 < c) = false := decide_eq_false (by omega)
     have d2 : decide (c < 0) = true := decide_eq_true hk
     have hbz := put2 hb4 hBw xo xn
     have xbz := (xb3.put (p := xo) (m := xn))
     have xaz : Box ((w3.setCell ⟨B, 0, none⟩ (.bool xo)).setCell ⟨B, 1, none⟩ (.int .i64 xn)) w.heap.size false 0 := xa3.put_other hAB
     obtain ⟨m0, m1, l0, l1⟩ := id xb3
     clear hk HQ HC
     go_wp2_with fail
     go_roundw
     case rel => exact ⟨j + 1, p + 1, xo, xn, ⟨by omega, by omega, HV.out⟩, by go_num, xbz, xaz, hbz⟩
     case measure => simp [intOf]; omega
    ·
     have HV : Hid (exQ false l (p + 1) = (po, pn)) := HQ.out.trans (exS_f0 HC.out hk)
     have d2 : decide (c < 0) = false := decide_eq_false hk
     by_cases hh : 0 < c
     ·
      have d1 : decide (0 < c) = true := decide_eq_true hh
      clear hh
      clear hk HQ HC
      go_wp2_with fail
      go_roundw
      case rel => exact ⟨j + 1, p + 1, po, pn, ⟨by omega, by omega, HV.out⟩, by go_num, xb3, xa3, hb4⟩
      case measure => simp [intOf]; omega
     ·
      have d1 : decide (0 < c) = false := decide_eq_false hh
      clear hh
      clear hk HQ HC
      go_wp2_with fail
      go_roundw
      case rel => exact ⟨j + 1, p + 1, po, pn, ⟨by omega, by omega, HV.out⟩, by go_num, xb3, xa3, hb4⟩
      case measure => simp [intOf]; omega
  ·
   have hd : decide ((j : Int) < (n : Int)) = false := decide_eq_false (by omega)
   have hd' : decide (j < n) = false := decide_eq_false hlt
   have HE : Hid (exP G l = cnt po pn) := by show _ = _; rw [HP.out, show n - 1 = p by omega, HQ0.out]
   have hrp : R64 pn := by have := HL.out p (by omega); rw [HQ0.out] at this; exact this
   have hno := fun W => rnorm_any po pn W hrp
   have HO : Hid (ov (exP G l) = ov (cnt po pn) ∧ nn (exP G l) = nn (cnt po pn)) := by rw [HE.out]; exact ⟨rfl, rfl⟩
   generalize ov (cnt po pn) = qo at *
   generalize nn (cnt po pn) = qn at *
   obtain ⟨m0, m1, l0, l1⟩ := id xb0
   clear hrp HE
   go_wp2_with fail
   refine (hno _).mono ?_
   rintro e w1 ⟨rfl, hb1⟩
   have xa1 := xa0.later hb1
   obtain ⟨c0, c1, g0, g1⟩ := id xa1
   obtain ⟨p0, p1, _, _⟩ := xa1.put (p := qo) (m := qn)
   go_wp2
   exact bodyPost_ret (v := .tuple #[.agg #[.bool qo, .int .i64 qn], .bool true]) (by simp [results, Tryz.results84, go_sem, p0, p1]) rfl ⟨by rw [HO.out.1, HO.out.2], put2 (Below.chain hb hb1) (Nat.le_refl _) _ _⟩
end Go.Proofs.YtjgckfcocmhnhaaGreatDoor.Hy
namespace Go.Proofs.YtjgckfcocmhnhaaGreatDoor.Hy
open Go.RowKit
theorem quo_vals (a c : Option Int) (w : World) (ha : V a) (hc : V c) : Calls Tryz.prog 82 #[.agg #[.bool (ov a), .int .i64 (nn a)], .agg #[.bool (ov c), .int .i64 (nn c)]] w fun e w' => e = .returned (.agg #[.bool (ov (fDiv a c)), .int .i64 (nn (fDiv a c))]) ∧ Below w.heap.size w w' := by
 have h := rquo_any (ov a) (ov c) (nn a) (nn c) w (V.r64 ha) (V.r64 hc)
 rw [cnt_val ha, cnt_val hc] at h
 exact h
theorem inc_any (ao : Option Addr) (n cap : Nat) (l : List Smp) (w : World) (hn : n ≤ 100) (hs : Ms w ao n l) (hl : ∀ s ∈ l, R64 s.2.2) :
  Calls Tryz.prog 80 #[.slice ao n cap] w fun e w' => ∃ (o : Bool) (m : Int) (c : Bool), e = .returned (.tuple #[.agg #[.bool o, .int .i64 m], .bool c]) ∧ Below w.heap.size w w' := by
 refine (inc_val ao n cap l w hn hs hl).mono ?_
 rintro e w' ⟨rfl, hb⟩
 by_cases h : n < 2
 ·
  rw [if_pos h]; exact ⟨_, _, _, rfl, hb⟩
 ·
  rw [if_neg h]; exact ⟨_, _, _, rfl, hb⟩
def dltP (l : List Smp) : Option Int := fAdd (cnt (lst l).2.1 (lst l).2.2) (fNeg (cnt (l.getD 0 s0).2.1 (l.getD 0 s0).2.2))
theorem lst_mem {l : List Smp} (h : l ≠ []) : lst l ∈ l := by
 have hp := List.length_pos_iff.2 h
 unfold lst
 rw [List.getD_eq_getElem?_getD, List.getElem?_eq_getElem (by omega)]
 exact List.getElem_mem _
theorem OwnN.new {w : World} {base : Nat} {v : Value} {l : List (Bool × Int)} (h : OwnN w base v l) (b off n c : Nat) (e : v = .slice (some ⟨b, off, none⟩) n c) : base ≤ b := by
 rcases h.2 with ⟨rfl, _⟩ | ⟨g, cap, cur, rfl, hb, _⟩
 ·
  cases e
 ·
  injection e with e1
  injection e1 with e1
  injection e1 with e1
  omega
theorem set_keep (w : World) (a b j : Nat) (u v : Value) (h : b ≠ a) : ((w.setCell ⟨a, 0, none⟩ u).setCell ⟨a, 1, none⟩ v).cell? ⟨b, j, none⟩ = w.cell? ⟨b, j, none⟩ := by
 rw [set_other (fun e => h (by injection e with e; exact e.symm)), set_other (fun e => h (by injection e with e; exact e.symm))]
set_option maxHeartbeats 8000000 in
theorem over_sum (ao : Option Addr) (n cap : Nat) (l : List Smp) (dd : Int) (w : World) (hn : n ≤ 100) (hs : Ms w ao n l) (hl : ∀ s ∈ l, R64 s.2.2) :
  Calls Tryz.prog 50 #[.slice ao n cap, .string ⟨#[115, 117, 109]⟩, .int .i64 dd] w fun e w' => e = .returned (if n = 0 then .tuple #[.agg #[.bool false, .int .i64 0], .bool false] else .tuple #[.agg #[.bool (ov (fSum (cnts (vls l)))), .int .i64 (nn (fSum (cnts (vls l))))], .bool true]) ∧ Below w.heap.size w w' := by
 have hb0 := bal (Below.refl _ w) (.cells #[.bool false, .int .i64 0] 33)
 have hx0 := Box.new w false 0
 have hlen := hs.1
 have hlm : (l.map nv).length = n := by rw [List.length_map]; exact hlen
 have hrv : ∀ x ∈ l.map nv, R64 x.2 := fun x hx => by
  obtain ⟨s, hs, rfl⟩ := List.mem_map.1 hx
  exact nv_r64 s (hl s hs)
 by_cases h0 : n = 0
 ·
  rw [if_pos h0]
  have d0 : ((n : Int) == 0) = true := by rw [h0]; rfl
  clear h0
  go_enter Tryz.func50, Tryz.ntmps50
  go_wp2_with fail
  refine (values_any ao n cap l _ (by omega) (hs.later hb0) hl).mono ?_
  rintro e w1 ⟨v1, rfl, ho1, hb1⟩
  obtain ⟨vo, vc, rfl, hns⟩ := ho1.slice
  rw [hlm] at hns ⊢
  have hx1 := hx0.later hb1
  have hb1c := Below.chain hb0 hb1
  clear hns hs hl hrv hlm ho1 hlen
  obtain ⟨c0, c1, g0, g1⟩ := id hx1
  obtain ⟨p0, p1, _, _⟩ := hx1.put (p := false) (m := 0)
  go_wp2
  exact bodyPost_ret (v := .tuple #[.agg #[.bool false, .int .i64 0], .bool false]) (by simp [results, Tryz.results50, go_sem, p0, p1]) rfl ⟨rfl, put2 hb1c (Nat.le_refl _) _ _⟩
 ·
  rw [if_neg h0]
  have d0 : ((n : Int) == 0) = false := by rw [beq_eq_false_iff_ne]; omega
  have HQ0 : Hid (fSum (cnts (vls l)) = fSum (cnts (l.map nv))) := by show _ = _; rw [nv_cnts l hl]
  go_enter Tryz.func50, Tryz.ntmps50
  go_wp2_with fail
  refine (values_any ao n cap l _ (by omega) (hs.later hb0) hl).mono ?_
  rintro e w1 ⟨v1, rfl, ho1, hb1⟩
  obtain ⟨vo, vc, rfl, hns⟩ := ho1.slice
  rw [hlm] at hns ⊢
  have hx1 := hx0.later hb1
  have hb1c := Below.chain hb0 hb1
  have hs1 := hs.later hb1c
  go_wp2_with fail
  refine (inc_any ao n cap l _ hn hs1 hl).mono ?_
  rintro e w2 ⟨io, im, ic, rfl, hb2⟩
  have hx2 := (hx1.later hb2).later (bal (Below.refl _ _) (.cells #[.bool io, .int .i64 im] 33))
  have hn2 := (hns.laterS hb2).laterS (bal (Below.refl _ _) (.cells #[.bool io, .int .i64 im] 33))
  have hb2c := bal (Below.chain hb1c hb2) (.cells #[.bool io, .int .i64 im] 33)
  have hsu := fun W hW => rsum_any vo n vc (l.map nv) W hn hW hrv
  have HQ : Hid (ov (fSum (cnts (vls l))) = ov (fSum (cnts (l.map nv))) ∧ nn (fSum (cnts (vls l))) = nn (fSum (cnts (l.map nv)))) := by rw [HQ0.out]; exact ⟨rfl, rfl⟩
  generalize ov (fSum (cnts (l.map nv))) = so at *
  generalize nn (fSum (cnts (l.map nv))) = sn at *
  clear hs hs1 hns hl hrv hlm ho1 hlen
  go_wp2_with fail
  refine (hsu _ hn2).mono ?_
  rintro e w3 ⟨rfl, hb3⟩
  have hx9 := hx2.later hb3
  obtain ⟨c0, c1, g0, g1⟩ := id hx9
  obtain ⟨p0, p1, _, _⟩ := hx9.put (p := so) (m := sn)
  go_wp2
  exact bodyPost_ret (v := .tuple #[.agg #[.bool so, .int .i64 sn], .bool true]) (by simp [results, Tryz.results50, go_sem, p0, p1]) rfl ⟨by rw [HQ.out.1, HQ.out.2], put2 (Below.chain hb2c hb3) (Nat.le_refl _) _ _⟩
set_option maxHeartbeats 8000000 in
theorem over_avg (ao : Option Addr) (n cap : Nat) (l : List Smp) (dd : Int) (w : World) (hn : n ≤ 100) (hs : Ms w ao n l) (hl : ∀ s ∈ l, R64 s.2.2) :
  Calls Tryz.prog 50 #[.slice ao n cap, .string ⟨#[97, 118, 103]⟩, .int .i64 dd] w fun e w' => e = .returned (if n = 0 then .tuple #[.agg #[.bool false, .int .i64 0], .bool false] else .tuple #[.agg #[.bool (ov (fDiv (fSum (cnts (vls l))) (fOf l.length))), .int .i64 (nn (fDiv (fSum (cnts (vls l))) (fOf l.length)))], .bool true]) ∧ Below w.heap.size w w' := by
 have hb0 := bal (Below.refl _ w) (.cells #[.bool false, .int .i64 0] 33)
 have hx0 := Box.new w false 0
 have hlen := hs.1
 have hlm : (l.map nv).length = n := by rw [List.length_map]; exact hlen
 have hrv : ∀ x ∈ l.map nv, R64 x.2 := fun x hx => by
  obtain ⟨s, hs, rfl⟩ := List.mem_map.1 hx
  exact nv_r64 s (hl s hs)
 by_cases h0 : n = 0
 ·
  rw [if_pos h0]
  have d0 : ((n : Int) == 0) = true := by rw [h0]; rfl
  clear h0
  go_enter Tryz.func50, Tryz.ntmps50
  go_wp2_with fail
  refine (values_any ao n cap l _ (by omega) (hs.later hb0) hl).mono ?_
  rintro e w1 ⟨v1, rfl, ho1, hb1⟩
  obtain ⟨vo, vc, rfl, hns⟩ := ho1.slice
  rw [hlm] at hns ⊢
  have hx1 := hx0.later hb1
  have hb1c := Below.chain hb0 hb1
  clear hns hs hl hrv hlm ho1 hlen
  obtain ⟨c0, c1, g0, g1⟩ := id hx1
  obtain ⟨p0, p1, _, _⟩ := hx1.put (p := false) (m := 0)
  go_wp2
  exact bodyPost_ret (v := .tuple #[.agg #[.bool false, .int .i64 0], .bool false]) (by simp [results, Tryz.results50, go_sem, p0, p1]) rfl ⟨rfl, put2 hb1c (Nat.le_refl _) _ _⟩
 ·
  rw [if_neg h0]
  have d0 : ((n : Int) == 0) = false := by rw [beq_eq_false_iff_ne]; omega
  have HQ0 : Hid (fSum (cnts (vls l)) = fSum (cnts (l.map nv))) := by show _ = _; rw [nv_cnts l hl]
  go_enter Tryz.func50, Tryz.ntmps50
  go_wp2_with fail
  refine (values_any ao n cap l _ (by omega) (hs.later hb0) hl).mono ?_
  rintro e w1 ⟨v1, rfl, ho1, hb1⟩
  obtain ⟨vo, vc, rfl, hns⟩ := ho1.slice
  rw [hlm] at hns ⊢
  have hx1 := hx0.later hb1
  have hb1c := Below.chain hb0 hb1
  have hs1 := hs.later hb1c
  go_wp2_with fail
  refine (inc_any ao n cap l _ hn hs1 hl).mono ?_
  rintro e w2 ⟨io, im, ic, rfl, hb2⟩
  have hx2 := (hx1.later hb2).later (bal (Below.refl _ _) (.cells #[.bool io, .int .i64 im] 33))
  have hn2 := (hns.laterS hb2).laterS (bal (Below.refl _ _) (.cells #[.bool io, .int .i64 im] 33))
  have hb2c := bal (Below.chain hb1c hb2) (.cells #[.bool io, .int .i64 im] 33)
  have hsu := fun W hW => rsum_any vo n vc (l.map nv) W hn hW hrv
  have hwh := fun W => whole_any n W (by unfold R64; omega)
  have hqu := fun W => quo_vals (fSum (cnts (l.map nv))) (fOf n) W (V.sum _) (V.norm _)
  have HQ : Hid (ov (fDiv (fSum (cnts (vls l))) (fOf l.length)) = ov (fDiv (fSum (cnts (l.map nv))) (fOf n)) ∧ nn (fDiv (fSum (cnts (vls l))) (fOf l.length)) = nn (fDiv (fSum (cnts (l.map nv))) (fOf n))) := by rw [HQ0.out, hlen]; exact ⟨rfl, rfl⟩
  generalize ov (fDiv (fSum (cnts (l.map nv))) (fOf n)) = qo at *
  generalize nn (fDiv (fSum (cnts (l.map nv))) (fOf n)) = qn at *
  generalize ov (fSum (cnts (l.map nv))) = so at *
  generalize nn (fSum (cnts (l.map nv))) = sn at *
  generalize ov (fOf n) = fo at *
  generalize nn (fOf n) = fn at *
  clear hs hs1 hns hl hrv hlm ho1 hlen
  go_wp2_with fail
  refine (hsu _ hn2).mono ?_
  rintro e w3 ⟨rfl, hb3⟩
  go_wp2_with fail
  refine (hwh _).mono ?_
  rintro e w4 ⟨rfl, hb4⟩
  go_wp2_with fail
  refine (hqu _).mono ?_
  rintro e w5 ⟨rfl, hb5⟩
  have hx9 := ((hx2.later hb3).later hb4).later hb5
  obtain ⟨c0, c1, g0, g1⟩ := id hx9
  obtain ⟨p0, p1, _, _⟩ := hx9.put (p := qo) (m := qn)
  go_wp2
  exact bodyPost_ret (v := .tuple #[.agg #[.bool qo, .int .i64 qn], .bool true]) (by simp [results, Tryz.results50, go_sem, p0, p1]) rfl ⟨by rw [HQ.out.1, HQ.out.2], put2 (Below.chain (Below.chain (Below.chain hb2c hb3) hb4) hb5) (Nat.le_refl _) _ _⟩
set_option maxHeartbeats 8000000 in
theorem over_count (ao : Option Addr) (n cap : Nat) (l : List Smp) (dd : Int) (w : World) (hn : n ≤ 100) (hs : Ms w ao n l) (hl : ∀ s ∈ l, R64 s.2.2) :
  Calls Tryz.prog 50 #[.slice ao n cap, .string ⟨#[99, 111, 117, 110, 116]⟩, .int .i64 dd] w fun e w' => e = .returned (if n = 0 then .tuple #[.agg #[.bool false, .int .i64 0], .bool false] else .tuple #[.agg #[.bool (ov (fOf l.length)), .int .i64 (nn (fOf l.length))], .bool true]) ∧ Below w.heap.size w w' := by
 have hb0 := bal (Below.refl _ w) (.cells #[.bool false, .int .i64 0] 33)
 have hx0 := Box.new w false 0
 have hlen := hs.1
 have hlm : (l.map nv).length = n := by rw [List.length_map]; exact hlen
 have hrv : ∀ x ∈ l.map nv, R64 x.2 := fun x hx => by
  obtain ⟨s, hs, rfl⟩ := List.mem_map.1 hx
  exact nv_r64 s (hl s hs)
 by_cases h0 : n = 0
 ·
  rw [if_pos h0]
  have d0 : ((n : Int) == 0) = true := by rw [h0]; rfl
  clear h0
  go_enter Tryz.func50, Tryz.ntmps50
  go_wp2_with fail
  refine (values_any ao n cap l _ (by omega) (hs.later hb0) hl).mono ?_
  rintro e w1 ⟨v1, rfl, ho1, hb1⟩
  obtain ⟨vo, vc, rfl, hns⟩ := ho1.slice
  rw [hlm] at hns ⊢
  have hx1 := hx0.later hb1
  have hb1c := Below.chain hb0 hb1
  clear hns hs hl hrv hlm ho1 hlen
  obtain ⟨c0, c1, g0, g1⟩ := id hx1
  obtain ⟨p0, p1, _, _⟩ := hx1.put (p := false) (m := 0)
  go_wp2
  exact bodyPost_ret (v := .tuple #[.agg #[.bool false, .int .i64 0], .bool false]) (by simp [results, Tryz.results50, go_sem, p0, p1]) rfl ⟨rfl, put2 hb1c (Nat.le_refl _) _ _⟩
 ·
  rw [if_neg h0]
  have d0 : ((n : Int) == 0) = false := by rw [beq_eq_false_iff_ne]; omega
  go_enter Tryz.func50, Tryz.ntmps50
  go_wp2_with fail
  refine (values_any ao n cap l _ (by omega) (hs.later hb0) hl).mono ?_
  rintro e w1 ⟨v1, rfl, ho1, hb1⟩
  obtain ⟨vo, vc, rfl, hns⟩ := ho1.slice
  rw [hlm] at hns ⊢
  have hx1 := hx0.later hb1
  have hb1c := Below.chain hb0 hb1
  have hs1 := hs.later hb1c
  go_wp2_with fail
  refine (inc_any ao n cap l _ hn hs1 hl).mono ?_
  rintro e w2 ⟨io, im, ic, rfl, hb2⟩
  have hx2 := (hx1.later hb2).later (bal (Below.refl _ _) (.cells #[.bool io, .int .i64 im] 33))
  have hn2 := (hns.laterS hb2).laterS (bal (Below.refl _ _) (.cells #[.bool io, .int .i64 im] 33))
  have hb2c := bal (Below.chain hb1c hb2) (.cells #[.bool io, .int .i64 im] 33)
  have hwh := fun W => whole_any n W (by unfold R64; omega)
  have HQ : Hid (ov (fOf l.length) = ov (fOf n) ∧ nn (fOf l.length) = nn (fOf n)) := by rw [hlen]; exact ⟨rfl, rfl⟩
  generalize ov (fOf n) = fo at *
  generalize nn (fOf n) = fn at *
  clear hs hs1 hns hl hrv hlm ho1 hlen
  go_wp2_with fail
  refine (hwh _).mono ?_
  rintro e w3 ⟨rfl, hb3⟩
  have hx9 := hx2.later hb3
  obtain ⟨c0, c1, g0, g1⟩ := id hx9
  obtain ⟨p0, p1, _, _⟩ := hx9.put (p := fo) (m := fn)
  go_wp2
  exact bodyPost_ret (v := .tuple #[.agg #[.bool fo, .int .i64 fn], .bool true]) (by simp [results, Tryz.results50, go_sem, p0, p1]) rfl ⟨by rw [HQ.out.1, HQ.out.2], put2 (Below.chain hb2c hb3) (Nat.le_refl _) _ _⟩
set_option maxHeartbeats 8000000 in
theorem over_min (ao : Option Addr) (n cap : Nat) (l : List Smp) (dd : Int) (w : World) (hn : n ≤ 100) (hs : Ms w ao n l) (hl : ∀ s ∈ l, R64 s.2.2) :
  Calls Tryz.prog 50 #[.slice ao n cap, .string ⟨#[109, 105, 110]⟩, .int .i64 dd] w fun e w' => e = .returned (if n = 0 then .tuple #[.agg #[.bool false, .int .i64 0], .bool false] else .tuple #[.agg #[.bool (ov (exP false (l.map nv))), .int .i64 (nn (exP false (l.map nv)))], .bool true]) ∧ Below w.heap.size w w' := by
 have hb0 := bal (Below.refl _ w) (.cells #[.bool false, .int .i64 0] 33)
 have hx0 := Box.new w false 0
 have hlen := hs.1
 have hlm : (l.map nv).length = n := by rw [List.length_map]; exact hlen
 have hrv : ∀ x ∈ l.map nv, R64 x.2 := fun x hx => by
  obtain ⟨s, hs, rfl⟩ := List.mem_map.1 hx
  exact nv_r64 s (hl s hs)
 by_cases h0 : n = 0
 ·
  rw [if_pos h0]
  have d0 : ((n : Int) == 0) = true := by rw [h0]; rfl
  clear h0
  go_enter Tryz.func50, Tryz.ntmps50
  go_wp2_with fail
  refine (values_any ao n cap l _ (by omega) (hs.later hb0) hl).mono ?_
  rintro e w1 ⟨v1, rfl, ho1, hb1⟩
  obtain ⟨vo, vc, rfl, hns⟩ := ho1.slice
  rw [hlm] at hns ⊢
  have hx1 := hx0.later hb1
  have hb1c := Below.chain hb0 hb1
  clear hns hs hl hrv hlm ho1 hlen
  obtain ⟨c0, c1, g0, g1⟩ := id hx1
  obtain ⟨p0, p1, _, _⟩ := hx1.put (p := false) (m := 0)
  go_wp2
  exact bodyPost_ret (v := .tuple #[.agg #[.bool false, .int .i64 0], .bool false]) (by simp [results, Tryz.results50, go_sem, p0, p1]) rfl ⟨rfl, put2 hb1c (Nat.le_refl _) _ _⟩
 ·
  rw [if_neg h0]
  have d0 : ((n : Int) == 0) = false := by rw [beq_eq_false_iff_ne]; omega
  go_enter Tryz.func50, Tryz.ntmps50
  go_wp2_with fail
  refine (values_any ao n cap l _ (by omega) (hs.later hb0) hl).mono ?_
  rintro e w1 ⟨v1, rfl, ho1, hb1⟩
  obtain ⟨vo, vc, rfl, hns⟩ := ho1.slice
  rw [hlm] at hns ⊢
  have hx1 := hx0.later hb1
  have hb1c := Below.chain hb0 hb1
  have hs1 := hs.later hb1c
  go_wp2_with fail
  refine (inc_any ao n cap l _ hn hs1 hl).mono ?_
  rintro e w2 ⟨io, im, ic, rfl, hb2⟩
  have hx2 := (hx1.later hb2).later (bal (Below.refl _ _) (.cells #[.bool io, .int .i64 im] 33))
  have hn2 := (hns.laterS hb2).laterS (bal (Below.refl _ _) (.cells #[.bool io, .int .i64 im] 33))
  have hb2c := bal (Below.chain hb1c hb2) (.cells #[.bool io, .int .i64 im] 33)
  have hex := fun W hW => rext_any vo n vc (l.map nv) false W ⟨by omega, by omega⟩ hW hrv
  obtain ⟨qo, hqo⟩ : ∃ q, ov (exP false (l.map nv)) = q := ⟨_, rfl⟩
  obtain ⟨qn, hqn⟩ : ∃ q, nn (exP false (l.map nv)) = q := ⟨_, rfl⟩
  have HQ : Hid (ov (exP false (l.map nv)) = qo ∧ nn (exP false (l.map nv)) = qn) := ⟨hqo, hqn⟩
  rw [hqo, hqn] at hex
  clear hqo hqn
  clear hs hs1 hns hl hrv hlm ho1 hlen
  go_wp2_with fail
  refine (hex _ hn2).mono ?_
  rintro e w3 ⟨rfl, hb3⟩
  have hx9 := hx2.later hb3
  obtain ⟨c0, c1, g0, g1⟩ := id hx9
  obtain ⟨p0, p1, _, _⟩ := hx9.put (p := qo) (m := qn)
  go_wp2
  exact bodyPost_ret (v := .tuple #[.agg #[.bool qo, .int .i64 qn], .bool true]) (by simp [results, Tryz.results50, go_sem, p0, p1]) rfl ⟨by rw [HQ.out.1, HQ.out.2], put2 (Below.chain hb2c hb3) (Nat.le_refl _) _ _⟩
set_option maxHeartbeats 8000000 in
theorem over_max (ao : Option Addr) (n cap : Nat) (l : List Smp) (dd : Int) (w : World) (hn : n ≤ 100) (hs : Ms w ao n l) (hl : ∀ s ∈ l, R64 s.2.2) :
  Calls Tryz.prog 50 #[.slice ao n cap, .string ⟨#[109, 97, 120]⟩, .int .i64 dd] w fun e w' => e = .returned (if n = 0 then .tuple #[.agg #[.bool false, .int .i64 0], .bool false] else .tuple #[.agg #[.bool (ov (exP true (l.map nv))), .int .i64 (nn (exP true (l.map nv)))], .bool true]) ∧ Below w.heap.size w w' := by
 have hb0 := bal (Below.refl _ w) (.cells #[.bool false, .int .i64 0] 33)
 have hx0 := Box.new w false 0
 have hlen := hs.1
 have hlm : (l.map nv).length = n := by rw [List.length_map]; exact hlen
 have hrv : ∀ x ∈ l.map nv, R64 x.2 := fun x hx => by
  obtain ⟨s, hs, rfl⟩ := List.mem_map.1 hx
  exact nv_r64 s (hl s hs)
 by_cases h0 : n = 0
 ·
  rw [if_pos h0]
  have d0 : ((n : Int) == 0) = true := by rw [h0]; rfl
  clear h0
  go_enter Tryz.func50, Tryz.ntmps50
  go_wp2_with fail
  refine (values_any ao n cap l _ (by omega) (hs.later hb0) hl).mono ?_
  rintro e w1 ⟨v1, rfl, ho1, hb1⟩
  obtain ⟨vo, vc, rfl, hns⟩ := ho1.slice
  rw [hlm] at hns ⊢
  have hx1 := hx0.later hb1
  have hb1c := Below.chain hb0 hb1
  clear hns hs hl hrv hlm ho1 hlen
  obtain ⟨c0, c1, g0, g1⟩ := id hx1
  obtain ⟨p0, p1, _, _⟩ := hx1.put (p := false) (m := 0)
  go_wp2
  exact bodyPost_ret (v := .tuple #[.agg #[.bool false, .int .i64 0], .bool false]) (by simp [results, Tryz.results50, go_sem, p0, p1]) rfl ⟨rfl, put2 hb1c (Nat.le_refl _) _ _⟩
 ·
  rw [if_neg h0]
  have d0 : ((n : Int) == 0) = false := by rw [beq_eq_false_iff_ne]; omega
  go_enter Tryz.func50, Tryz.ntmps50
  go_wp2_with fail
  refine (values_any ao n cap l _ (by omega) (hs.later hb0) hl).mono ?_
  rintro e w1 ⟨v1, rfl, ho1, hb1⟩
  obtain ⟨vo, vc, rfl, hns⟩ := ho1.slice
  rw [hlm] at hns ⊢
  have hx1 := hx0.later hb1
  have hb1c := Below.chain hb0 hb1
  have hs1 := hs.later hb1c
  go_wp2_with fail
  refine (inc_any ao n cap l _ hn hs1 hl).mono ?_
  rintro e w2 ⟨io, im, ic, rfl, hb2⟩
  have hx2 := (hx1.later hb2).later (bal (Below.refl _ _) (.cells #[.bool io, .int .i64 im] 33))
  have hn2 := (hns.laterS hb2).laterS (bal (Below.refl _ _) (.cells #[.bool io, .int .i64 im] 33))
  have hb2c := bal (Below.chain hb1c hb2) (.cells #[.bool io, .int .i64 im] 33)
  have hex := fun W hW => rext_any vo n vc (l.map nv) true W ⟨by omega, by omega⟩ hW hrv
  obtain ⟨qo, hqo⟩ : ∃ q, ov (exP true (l.map nv)) = q := ⟨_, rfl⟩
  obtain ⟨qn, hqn⟩ : ∃ q, nn (exP true (l.map nv)) = q := ⟨_, rfl⟩
  have HQ : Hid (ov (exP true (l.map nv)) = qo ∧ nn (exP true (l.map nv)) = qn) := ⟨hqo, hqn⟩
  rw [hqo, hqn] at hex
  clear hqo hqn
  clear hs hs1 hns hl hrv hlm ho1 hlen
  go_wp2_with fail
  refine (hex _ hn2).mono ?_
  rintro e w3 ⟨rfl, hb3⟩
  have hx9 := hx2.later hb3
  obtain ⟨c0, c1, g0, g1⟩ := id hx9
  obtain ⟨p0, p1, _, _⟩ := hx9.put (p := qo) (m := qn)
  go_wp2
  exact bodyPost_ret (v := .tuple #[.agg #[.bool qo, .int .i64 qn], .bool true]) (by simp [results, Tryz.results50, go_sem, p0, p1]) rfl ⟨by rw [HQ.out.1, HQ.out.2], put2 (Below.chain hb2c hb3) (Nat.le_refl _) _ _⟩
set_option maxHeartbeats 8000000 in
theorem over_last (ao : Option Addr) (n cap : Nat) (l : List Smp) (dd : Int) (w : World) (hn : n ≤ 100) (hs : Ms w ao n l) (hl : ∀ s ∈ l, R64 s.2.2) :
  Calls Tryz.prog 50 #[.slice ao n cap, .string ⟨#[108, 97, 115, 116]⟩, .int .i64 dd] w fun e w' => e = .returned (if n = 0 then .tuple #[.agg #[.bool false, .int .i64 0], .bool false] else .tuple #[.agg #[.bool (ov (cnt (lst l).2.1 (lst l).2.2)), .int .i64 (nn (cnt (lst l).2.1 (lst l).2.2))], .bool true]) ∧ Below w.heap.size w w' := by
 have hb0 := bal (Below.refl _ w) (.cells #[.bool false, .int .i64 0] 33)
 have hx0 := Box.new w false 0
 have hlen := hs.1
 have hlm : (l.map nv).length = n := by rw [List.length_map]; exact hlen
 have hrv : ∀ x ∈ l.map nv, R64 x.2 := fun x hx => by
  obtain ⟨s, hs, rfl⟩ := List.mem_map.1 hx
  exact nv_r64 s (hl s hs)
 by_cases h0 : n = 0
 ·
  rw [if_pos h0]
  have d0 : ((n : Int) == 0) = true := by rw [h0]; rfl
  clear h0
  go_enter Tryz.func50, Tryz.ntmps50
  go_wp2_with fail
  refine (values_any ao n cap l _ (by omega) (hs.later hb0) hl).mono ?_
  rintro e w1 ⟨v1, rfl, ho1, hb1⟩
  obtain ⟨vo, vc, rfl, hns⟩ := ho1.slice
  rw [hlm] at hns ⊢
  have hx1 := hx0.later hb1
  have hb1c := Below.chain hb0 hb1
  clear hns hs hl hrv hlm ho1 hlen
  obtain ⟨c0, c1, g0, g1⟩ := id hx1
  obtain ⟨p0, p1, _, _⟩ := hx1.put (p := false) (m := 0)
  go_wp2
  exact bodyPost_ret (v := .tuple #[.agg #[.bool false, .int .i64 0], .bool false]) (by simp [results, Tryz.results50, go_sem, p0, p1]) rfl ⟨rfl, put2 hb1c (Nat.le_refl _) _ _⟩
 ·
  rw [if_neg h0]
  have d0 : ((n : Int) == 0) = false := by rw [beq_eq_false_iff_ne]; omega
  obtain ⟨p, hp⟩ : ∃ p, p + 1 = n := ⟨n - 1, by omega⟩
  have EP : Hid (wrap64 ((n : Int) - 1) = (p : Int)) := (wf64 (by omega) (by omega)).trans (by omega)
  have hpn : p < n := by omega
  have hnp : 0 < n := by omega
  have g1 : (l.map nv).getD p (false, 0) = nv (lst l) := by
   unfold lst
   rw [hlen, show n - 1 = p by omega, List.getD_eq_getElem?_getD, List.getD_eq_getElem?_getD, List.getElem?_map, List.getElem?_eq_getElem (by omega)]
   rfl
  go_enter Tryz.func50, Tryz.ntmps50
  go_wp2_with fail
  refine (values_any ao n cap l _ (by omega) (hs.later hb0) hl).mono ?_
  rintro e w1 ⟨v1, rfl, ho1, hb1⟩
  obtain ⟨vo, vc, rfl, hns⟩ := ho1.slice
  rw [hlm] at hns ⊢
  have hx1 := hx0.later hb1
  have hb1c := Below.chain hb0 hb1
  have hs1 := hs.later hb1c
  go_wp2_with fail
  refine (inc_any ao n cap l _ hn hs1 hl).mono ?_
  rintro e w2 ⟨io, im, ic, rfl, hb2⟩
  have hx2 := (hx1.later hb2).later (bal (Below.refl _ _) (.cells #[.bool io, .int .i64 im] 33))
  have hn2 := (hns.laterS hb2).laterS (bal (Below.refl _ _) (.cells #[.bool io, .int .i64 im] 33))
  have hb2c := bal (Below.chain hb1c hb2) (.cells #[.bool io, .int .i64 im] 33)
  obtain ⟨vb, off, rfl, hcc⟩ := hn2.2 hnp
  have k1 := hcc p hpn
  rw [g1] at k1
  have HQ : Hid (ov (cnt (lst l).2.1 (lst l).2.2) = (nv (lst l)).1 ∧ nn (cnt (lst l).2.1 (lst l).2.2) = (nv (lst l)).2) := ⟨rfl, rfl⟩
  clear hs hs1 hns hn2 hcc hl hrv hlm ho1 hlen
  generalize nv (lst l) = x at *
  obtain ⟨qo, qn⟩ := x
  dsimp only at *
  obtain ⟨k0, k2⟩ := k1
  have e1 : p = n - 1 := by omega
  subst e1
  have hx9 := hx2
  obtain ⟨c0, c1, g0, g1⟩ := id hx9
  obtain ⟨p0, p1, _, _⟩ := hx9.put (p := qo) (m := qn)
  go_wp2
  exact bodyPost_ret (v := .tuple #[.agg #[.bool qo, .int .i64 qn], .bool true]) (by simp [results, Tryz.results50, go_sem, p0, p1]) rfl ⟨by rw [HQ.out.1, HQ.out.2], put2 (hb2c) (Nat.le_refl _) _ _⟩
set_option maxHeartbeats 8000000 in
theorem over_increase (ao : Option Addr) (n cap : Nat) (l : List Smp) (dd : Int) (w : World) (hn : n ≤ 100) (hs : Ms w ao n l) (hl : ∀ s ∈ l, R64 s.2.2) :
  Calls Tryz.prog 50 #[.slice ao n cap, .string ⟨#[105, 110, 99, 114, 101, 97, 115, 101]⟩, .int .i64 dd] w fun e w' => e = .returned (if n < 2 then .tuple #[.agg #[.bool false, .int .i64 0], .bool false] else .tuple #[.agg #[.bool (ov (incP l)), .int .i64 (nn (incP l))], .bool true]) ∧ Below w.heap.size w w' := by
 have hb0 := bal (Below.refl _ w) (.cells #[.bool false, .int .i64 0] 33)
 have hx0 := Box.new w false 0
 have hlen := hs.1
 have hlm : (l.map nv).length = n := by rw [List.length_map]; exact hlen
 have hrv : ∀ x ∈ l.map nv, R64 x.2 := fun x hx => by
  obtain ⟨s, hs, rfl⟩ := List.mem_map.1 hx
  exact nv_r64 s (hl s hs)
 by_cases h0 : n < 2
 ·
  rw [if_pos h0]
  have d0 : decide ((n : Int) < 2) = true := decide_eq_true (by omega)
  go_enter Tryz.func50, Tryz.ntmps50
  go_wp2_with fail
  refine (values_any ao n cap l _ (by omega) (hs.later hb0) hl).mono ?_
  rintro e w1 ⟨v1, rfl, ho1, hb1⟩
  obtain ⟨vo, vc, rfl, hns⟩ := ho1.slice
  rw [hlm] at hns ⊢
  have hx1 := hx0.later hb1
  have hb1c := Below.chain hb0 hb1
  clear hns hs hl hrv hlm ho1 hlen
  obtain ⟨c0, c1, g0, g1⟩ := id hx1
  obtain ⟨p0, p1, _, _⟩ := hx1.put (p := false) (m := 0)
  go_wp2
  exact bodyPost_ret (v := .tuple #[.agg #[.bool false, .int .i64 0], .bool false]) (by simp [results, Tryz.results50, go_sem, p0, p1]) rfl ⟨rfl, put2 hb1c (Nat.le_refl _) _ _⟩
 ·
  rw [if_neg h0]
  have d0 : decide ((n : Int) < 2) = false := decide_eq_false (by omega)
  go_enter Tryz.func50, Tryz.ntmps50
  go_wp2_with fail
  refine (values_any ao n cap l _ (by omega) (hs.later hb0) hl).mono ?_
  rintro e w1 ⟨v1, rfl, ho1, hb1⟩
  obtain ⟨vo, vc, rfl, hns⟩ := ho1.slice
  rw [hlm] at hns ⊢
  have hx1 := hx0.later hb1
  have hb1c := Below.chain hb0 hb1
  have hs1 := hs.later hb1c
  go_wp2_with fail
  have hiv := fun W hW => inc_val ao n cap l W hn hW hl
  rw [if_neg h0] at hiv
  obtain ⟨io, hio⟩ : ∃ q, ov (incP l) = q := ⟨_, rfl⟩
  obtain ⟨im, him⟩ : ∃ q, nn (incP l) = q := ⟨_, rfl⟩
  have HQ : Hid (ov (incP l) = io ∧ nn (incP l) = im) := ⟨hio, him⟩
  rw [hio, him] at hiv
  clear hio him
  refine (hiv _ hs1).mono ?_
  rintro e w2 ⟨rfl, hb2⟩
  have hx2 := (hx1.later hb2).later (bal (Below.refl _ _) (.cells #[.bool io, .int .i64 im] 33))
  have hn2 := (hns.laterS hb2).laterS (bal (Below.refl _ _) (.cells #[.bool io, .int .i64 im] 33))
  have hb2c := bal (Below.chain hb1c hb2) (.cells #[.bool io, .int .i64 im] 33)
  clear hs hs1 hns hl hrv hlm ho1 hlen
  have hx9 := hx2
  obtain ⟨c0, c1, g0, g1⟩ := id hx9
  obtain ⟨p0, p1, _, _⟩ := hx9.put (p := io) (m := im)
  go_wp2
  exact bodyPost_ret (v := .tuple #[.agg #[.bool io, .int .i64 im], .bool true]) (by simp [results, Tryz.results50, go_sem, p0, p1]) rfl ⟨by rw [HQ.out.1, HQ.out.2], put2 (hb2c) (Nat.le_refl _) _ _⟩
set_option maxHeartbeats 8000000 in
theorem over_rate (ao : Option Addr) (n cap : Nat) (l : List Smp) (dd : Int) (w : World) (hn : n ≤ 100) (hs : Ms w ao n l) (hl : ∀ s ∈ l, R64 s.2.2) (hdd : R64 dd) :
  Calls Tryz.prog 50 #[.slice ao n cap, .string ⟨#[114, 97, 116, 101]⟩, .int .i64 dd] w fun e w' => e = .returned (if n < 2 then .tuple #[.agg #[.bool false, .int .i64 0], .bool false] else .tuple #[.agg #[.bool (ov (fDiv (incP l) (fOf dd))), .int .i64 (nn (fDiv (incP l) (fOf dd)))], .bool true]) ∧ Below w.heap.size w w' := by
 have hb0 := bal (Below.refl _ w) (.cells #[.bool false, .int .i64 0] 33)
 have hx0 := Box.new w false 0
 have hlen := hs.1
 have hlm : (l.map nv).length = n := by rw [List.length_map]; exact hlen
 have hrv : ∀ x ∈ l.map nv, R64 x.2 := fun x hx => by
  obtain ⟨s, hs, rfl⟩ := List.mem_map.1 hx
  exact nv_r64 s (hl s hs)
 by_cases h0 : n < 2
 ·
  rw [if_pos h0]
  have d0 : decide ((n : Int) < 2) = true := decide_eq_true (by omega)
  go_enter Tryz.func50, Tryz.ntmps50
  go_wp2_with fail
  refine (values_any ao n cap l _ (by omega) (hs.later hb0) hl).mono ?_
  rintro e w1 ⟨v1, rfl, ho1, hb1⟩
  obtain ⟨vo, vc, rfl, hns⟩ := ho1.slice
  rw [hlm] at hns ⊢
  have hx1 := hx0.later hb1
  have hb1c := Below.chain hb0 hb1
  clear hns hs hl hrv hlm ho1 hlen
  obtain ⟨c0, c1, g0, g1⟩ := id hx1
  obtain ⟨p0, p1, _, _⟩ := hx1.put (p := false) (m := 0)
  go_wp2
  exact bodyPost_ret (v := .tuple #[.agg #[.bool false, .int .i64 0], .bool false]) (by simp [results, Tryz.results50, go_sem, p0, p1]) rfl ⟨rfl, put2 hb1c (Nat.le_refl _) _ _⟩
 ·
  rw [if_neg h0]
  have d0 : decide ((n : Int) < 2) = false := decide_eq_false (by omega)
  go_enter Tryz.func50, Tryz.ntmps50
  go_wp2_with fail
  refine (values_any ao n cap l _ (by omega) (hs.later hb0) hl).mono ?_
  rintro e w1 ⟨v1, rfl, ho1, hb1⟩
  obtain ⟨vo, vc, rfl, hns⟩ := ho1.slice
  rw [hlm] at hns ⊢
  have hx1 := hx0.later hb1
  have hb1c := Below.chain hb0 hb1
  have hs1 := hs.later hb1c
  go_wp2_with fail
  have hiv := fun W hW => inc_val ao n cap l W hn hW hl
  rw [if_neg h0] at hiv
  have hwh := fun W => whole_any dd W hdd
  have hqu := fun W => quo_vals (incP l) (fOf dd) W (V.sum _) (V.norm _)
  obtain ⟨qo, hqo⟩ : ∃ q, ov (fDiv (incP l) (fOf dd)) = q := ⟨_, rfl⟩
  obtain ⟨qn, hqn⟩ : ∃ q, nn (fDiv (incP l) (fOf dd)) = q := ⟨_, rfl⟩
  have HQ : Hid (ov (fDiv (incP l) (fOf dd)) = qo ∧ nn (fDiv (incP l) (fOf dd)) = qn) := ⟨hqo, hqn⟩
  rw [hqo, hqn] at hqu
  clear hqo hqn
  generalize ov (incP l) = io at *
  generalize nn (incP l) = im at *
  generalize ov (fOf dd) = fo at *
  generalize nn (fOf dd) = fn at *
  refine (hiv _ hs1).mono ?_
  rintro e w2 ⟨rfl, hb2⟩
  have hx2 := (hx1.later hb2).later (bal (Below.refl _ _) (.cells #[.bool io, .int .i64 im] 33))
  have hn2 := (hns.laterS hb2).laterS (bal (Below.refl _ _) (.cells #[.bool io, .int .i64 im] 33))
  have hb2c := bal (Below.chain hb1c hb2) (.cells #[.bool io, .int .i64 im] 33)
  have hy2 := Box.new w2 io im
  have hne : w2.heap.size ≠ w.heap.size := by have := (hx1.later hb2).lt; omega
  clear hs hs1 hns hl hrv hlm ho1 hlen
  clear hn2
  go_wp2_with fail
  generalize w2.heap.size = B at *
  generalize w2.alloc (.cells #[.bool io, .int .i64 im] 33) = w3 at *
  have hyd : Box w3.drew B io im := hy2.later (Below.refl _ _).drew
  have hxd : Box w3.drew w.heap.size false 0 := hx2.later (Below.refl _ _).drew
  have hbd : Below w.heap.size w w3.drew := hb2c.trans (Below.refl _ _).drew
  have hS0 : (fun W : World => Box W B io im) _ := hyd
  refine wp_region_noPanic ?_
  refine wp_region_held_drew (S := fun W : World => Box W B io im) (by kernel_rfl) hS0 (fun _ => ?_)
  refine take_at 0 (some 77) (.agg #[.bool io, .int .i64 im]) rfl rfl (by kernel_rfl) (by kernel_rfl) (by kernel_rfl) (fun _ _ _ h => h) (by rfl) (fun W hSw => by obtain ⟨q1, q2, _, _⟩ := hSw; go_simp) hS0 ?_
  simp only [Act.put, List.setIfInBounds_toArray, List.set_cons_zero, List.set_cons_succ]
  refine take_at 1 (some 78) (.int .i64 dd) rfl rfl (by kernel_rfl) (by kernel_rfl) (by kernel_rfl) (fun _ _ _ h => h) (by rfl) (fun W hSw => by obtain ⟨q1, q2, _, _⟩ := hSw; go_simp) hS0 ?_
  simp only [Act.put, List.setIfInBounds_toArray, List.set_cons_zero, List.set_cons_succ]
  refine wpAnyH_ready (rs := [2]) (by kernel_rfl) (by simp) ?_
  refine AllReadyH.cons rfl (fun K hK => ?_) AllReadyH.nil
  go_simp
  refine (hwh _).mono ?_
  rintro e w4 ⟨rfl, hb4⟩
  have hy4 := hyd.later hb4
  have hx4 := hxd.later hb4
  have hbe := Below.chain hbd hb4
  have hS1 := (hy4 : (fun W : World => Box W B io im) w4)
  refine hK.out _ _ hS1 (fun _ => ?_)
  clear hK K
  refine wpAnyH_ready (rs := [3]) (by kernel_rfl) (by simp) ?_
  refine AllReadyH.cons rfl (fun K hK => ?_) AllReadyH.nil
  go_simp
  refine (hqu _).mono ?_
  rintro e w5 ⟨rfl, hb5⟩
  have hy5 := hy4.later hb5
  have hx5 := hx4.later hb5
  have hbf := Below.chain hbe hb5
  have hS2 := (hy5 : (fun W : World => Box W B io im) w5)
  refine hK.out _ _ hS2 (fun _ => ?_)
  clear hK K
  obtain ⟨c0, c1, g0, g1⟩ := id hx5
  obtain ⟨p0, p1, _, _⟩ := hx5.put (p := qo) (m := qn)
  have hy6 := hy5.put_other (p := qo) (m := qn) (fun e => hne e.symm)
  refine wpAnyH_ready (rs := [4]) (by kernel_rfl) (by simp) ?_
  refine AllReadyH.cons rfl (fun K hK => ?_) AllReadyH.nil
  go_simp
  have hS3 := (hy6 : (fun W : World => Box W B io im) ((w5.setCell ⟨w.heap.size, 0, none⟩ (.bool qo)).setCell ⟨w.heap.size, 1, none⟩ (.int .i64 qn)))
  refine hK.out _ _ hS3 (fun _ => ?_)
  clear hK K
  refine wpAnyH_ready (rs := [5]) (by kernel_rfl) (by simp) ?_
  refine AllReadyH.cons rfl (fun K hK => ?_) AllReadyH.nil
  go_simp
  have hS4 := (hy6 : (fun W : World => Box W B io im) _)
  refine hK.out _ _ hS4 (fun _ => ?_)
  clear hK K
  refine wpAnyH_done (by kernel_rfl) ?_ _
  refine NoPanic.normal ?_
  go_wp2
  exact bodyPost_ret (v := .tuple #[.agg #[.bool qo, .int .i64 qn], .bool true]) (by simp [results, Tryz.results50, go_sem, p0, p1]) rfl ⟨by rw [HQ.out.1, HQ.out.2], put2 hbf (Nat.le_refl _) _ _⟩
set_option maxHeartbeats 8000000 in
theorem over_delta (ao : Option Addr) (n cap : Nat) (l : List Smp) (dd : Int) (w : World) (hn : n ≤ 100) (hs : Ms w ao n l) (hl : ∀ s ∈ l, R64 s.2.2) :
  Calls Tryz.prog 50 #[.slice ao n cap, .string ⟨#[100, 101, 108, 116, 97]⟩, .int .i64 dd] w fun e w' => e = .returned (if n < 2 then .tuple #[.agg #[.bool false, .int .i64 0], .bool false] else .tuple #[.agg #[.bool (ov (dltP l)), .int .i64 (nn (dltP l))], .bool true]) ∧ Below w.heap.size w w' := by
 have hb0 := bal (Below.refl _ w) (.cells #[.bool false, .int .i64 0] 33)
 have hx0 := Box.new w false 0
 have hlen := hs.1
 have hlm : (l.map nv).length = n := by rw [List.length_map]; exact hlen
 have hrv : ∀ x ∈ l.map nv, R64 x.2 := fun x hx => by
  obtain ⟨s, hs, rfl⟩ := List.mem_map.1 hx
  exact nv_r64 s (hl s hs)
 by_cases h0 : n < 2
 ·
  rw [if_pos h0]
  have d0 : decide ((n : Int) < 2) = true := decide_eq_true (by omega)
  go_enter Tryz.func50, Tryz.ntmps50
  go_wp2_with fail
  refine (values_any ao n cap l _ (by omega) (hs.later hb0) hl).mono ?_
  rintro e w1 ⟨v1, rfl, ho1, hb1⟩
  obtain ⟨vo, vc, rfl, hns⟩ := ho1.slice
  rw [hlm] at hns ⊢
  have hx1 := hx0.later hb1
  have hb1c := Below.chain hb0 hb1
  have hs1 := hs.later hb1c
  obtain ⟨c0, c1, g0, g1⟩ := id hx1
  obtain ⟨p0, p1, _, _⟩ := hx1.put (p := false) (m := 0)
  go_wp2
  exact bodyPost_ret (v := .tuple #[.agg #[.bool false, .int .i64 0], .bool false]) (by simp [results, Tryz.results50, go_sem, p0, p1]) rfl ⟨rfl, put2 hb1c (Nat.le_refl _) _ _⟩
 ·
  rw [if_neg h0]
  have d0 : decide ((n : Int) < 2) = false := decide_eq_false (by omega)
  obtain ⟨p, hp⟩ : ∃ p, n - 1 = p := ⟨_, rfl⟩
  have EP : Hid (IntKind.i64.wrap ((n : Int) - 1) = (p : Int)) := by show _ = _; rw [wI (by omega) (by omega)]; omega
  have hpn : p < n := by omega
  have hnp : 0 < n := by omega
  have g1 : (l.map nv).getD p (false, 0) = nv (lst l) := by
   unfold lst
   rw [hlen, hp, List.getD_eq_getElem?_getD, List.getD_eq_getElem?_getD, List.getElem?_map, List.getElem?_eq_getElem (by omega)]
   rfl
  have g0 : (l.map nv).getD 0 (false, 0) = nv (l.getD 0 s0) := by
   rw [List.getD_eq_getElem?_getD, List.getD_eq_getElem?_getD, List.getElem?_map, List.getElem?_eq_getElem (by omega)]
   rfl
  have hm1 := hl _ (lst_mem (l := l) (by intro e; rw [e] at hlen; simp at hlen; omega))
  have hm0 := hl _ (getD_memS (l := l) (j := 0) (by omega))
  have HQ : Hid (dltP l = fAdd (cnt (nv (lst l)).1 (nv (lst l)).2) (fNeg (cnt (nv (l.getD 0 s0)).1 (nv (l.getD 0 s0)).2))) := by
   show _ = fAdd (cnt (ov (cnt _ _)) (nn (cnt _ _))) (fNeg (cnt (ov (cnt _ _)) (nn (cnt _ _))))
   rw [cnt_val (V.cnt hm1.1 hm1.2), cnt_val (V.cnt hm0.1 hm0.2)]
   rfl
  have hsb := fun W => rsub_any (nv (lst l)).1 (nv (l.getD 0 s0)).1 (nv (lst l)).2 (nv (l.getD 0 s0)).2 W (nv_r64 _ hm1) (nv_r64 _ hm0)
  go_enter Tryz.func50, Tryz.ntmps50
  go_wp2_with fail
  refine (values_any ao n cap l _ (by omega) (hs.later hb0) hl).mono ?_
  rintro e w1 ⟨v1, rfl, ho1, hb1⟩
  obtain ⟨vo, vc, rfl, hns⟩ := ho1.slice
  rw [hlm] at hns ⊢
  have hx1 := hx0.later hb1
  have hb1c := Below.chain hb0 hb1
  have hs1 := hs.later hb1c
  go_wp2_with fail
  refine (inc_any ao n cap l _ hn hs1 hl).mono ?_
  rintro e w2 ⟨io, im, ic, rfl, hb2⟩
  have hx2 := (hx1.later hb2).later (bal (Below.refl _ _) (.cells #[.bool io, .int .i64 im] 33))
  have hn2 := (hns.laterS hb2).laterS (bal (Below.refl _ _) (.cells #[.bool io, .int .i64 im] 33))
  have hb2c := bal (Below.chain hb1c hb2) (.cells #[.bool io, .int .i64 im] 33)
  obtain ⟨vb, off, rfl, hcc⟩ := hn2.2 hnp
  have hvg := ho1.new vb off n vc (by rw [hlm])
  have hvb : vb ≠ w.heap.size := by have := hx0.lt; omega
  have k1 := hcc p hpn
  have k0 := hcc 0 hnp
  rw [g1] at k1
  rw [g0] at k0
  simp only [Nat.zero_mul, Nat.add_zero] at k0
  have HQ1 : Hid (ov (dltP l) = ov (fAdd (cnt (nv (lst l)).1 (nv (lst l)).2) (fNeg (cnt (nv (l.getD 0 s0)).1 (nv (l.getD 0 s0)).2))) ∧ nn (dltP l) = nn (fAdd (cnt (nv (lst l)).1 (nv (lst l)).2) (fNeg (cnt (nv (l.getD 0 s0)).1 (nv (l.getD 0 s0)).2)))) := ⟨by rw [HQ.out], by rw [HQ.out]⟩
  clear hs hs1 hns HQ hn2 hcc g1 g0 hm1 hm0
  generalize nv (lst l) = x at *
  generalize nv (l.getD 0 s0) = y at *
  obtain ⟨x1, x2⟩ := x
  obtain ⟨y1, y2⟩ := y
  dsimp only at *
  generalize hfo : ov (fAdd (cnt x1 x2) (fNeg (cnt y1 y2))) = fo at *
  generalize hfn : nn (fAdd (cnt x1 x2) (fNeg (cnt y1 y2))) = fn at *
  clear hfo hfn
  go_wp2_with fail
  generalize w2.alloc (.cells #[.bool io, .int .i64 im] 33) = w3 at *
  have HZ : Hid (∀ W, Below w3.drew.heap.size w3.drew W → W.cell? ⟨vb, off + p * 2, none⟩ = some (.bool x1) ∧ W.cell? ⟨vb, off + p * 2 + 1, none⟩ = some (.int .i64 x2) ∧ W.cell? ⟨vb, off, none⟩ = some (.bool y1) ∧ W.cell? ⟨vb, off + 1, none⟩ = some (.int .i64 y2)) := by
   intro W hW
   have hlt : vb < w3.drew.heap.size := World.block_lt_of_cell? w3 _ k0.1
   exact ⟨(hW.cell (p := ⟨vb, off + p * 2, none⟩) hlt).trans k1.1, (hW.cell (p := ⟨vb, off + p * 2 + 1, none⟩) hlt).trans k1.2, (hW.cell (p := ⟨vb, off, none⟩) hlt).trans k0.1, (hW.cell (p := ⟨vb, off + 1, none⟩) hlt).trans k0.2⟩
  obtain ⟨z0, z1, z2, z3⟩ := HZ.out _ (Below.refl _ _)
  have hx5 : Box w3.drew w.heap.size false 0 := hx2.later (Below.refl _ _).drew
  have hb5 : Below w.heap.size w w3.drew := hb2c.trans (Below.refl _ _).drew
  have hS0 : (fun W : World => W.cell? ⟨vb, off + p * 2, none⟩ = some (Value.bool x1) ∧ W.cell? ⟨vb, off + p * 2 + 1, none⟩ = some (Value.int .i64 x2) ∧ W.cell? ⟨vb, off, none⟩ = some (Value.bool y1) ∧ W.cell? ⟨vb, off + 1, none⟩ = some (Value.int .i64 y2)) _ := ⟨z0, z1, z2, z3⟩
  refine wp_region_noPanic ?_
  refine wp_region_held_drew (S := fun W : World => W.cell? ⟨vb, off + p * 2, none⟩ = some (Value.bool x1) ∧ W.cell? ⟨vb, off + p * 2 + 1, none⟩ = some (Value.int .i64 x2) ∧ W.cell? ⟨vb, off, none⟩ = some (Value.bool y1) ∧ W.cell? ⟨vb, off + 1, none⟩ = some (Value.int .i64 y2)) (by kernel_rfl) hS0 (fun _ => ?_)
  refine take_at 0 (some 81) (.slice (some ⟨vb, off, none⟩) n vc) rfl rfl (by kernel_rfl) (by kernel_rfl) (by kernel_rfl) (fun _ _ _ h => h) (by rfl) (fun W hSw => by obtain ⟨q0, q1, q2, q3⟩ := hSw; go_simp <;> exact EP.out) hS0 ?_
  simp only [Act.put, List.setIfInBounds_toArray, List.set_cons_zero, List.set_cons_succ]
  refine take_at 1 (some 82) (.int .i64 n) rfl rfl (by kernel_rfl) (by kernel_rfl) (by kernel_rfl) (fun _ _ _ h => h) (by rfl) (fun W hSw => by obtain ⟨q0, q1, q2, q3⟩ := hSw; go_simp <;> exact EP.out) hS0 ?_
  simp only [Act.put, List.setIfInBounds_toArray, List.set_cons_zero, List.set_cons_succ]
  refine take_at 2 (some 83) (.int .i64 p) rfl rfl (by kernel_rfl) (by kernel_rfl) (by kernel_rfl) (fun _ _ _ h => h) (by rfl) (fun W hSw => by obtain ⟨q0, q1, q2, q3⟩ := hSw; go_simp <;> exact EP.out) hS0 ?_
  simp only [Act.put, List.setIfInBounds_toArray, List.set_cons_zero, List.set_cons_succ]
  refine take_at 3 (some 84) (.pointer (some ⟨vb, off + p * 2, none⟩)) rfl rfl (by kernel_rfl) (by kernel_rfl) (by kernel_rfl) (fun _ _ _ h => h) (by rfl) (fun W hSw => by obtain ⟨q0, q1, q2, q3⟩ := hSw; go_simp <;> exact EP.out) hS0 ?_
  simp only [Act.put, List.setIfInBounds_toArray, List.set_cons_zero, List.set_cons_succ]
  refine take_at 4 (some 85) (.agg #[.bool x1, .int .i64 x2]) rfl rfl (by kernel_rfl) (by kernel_rfl) (by kernel_rfl) (fun _ _ _ h => h) (by rfl) (fun W hSw => by obtain ⟨q0, q1, q2, q3⟩ := hSw; go_simp <;> exact EP.out) hS0 ?_
  simp only [Act.put, List.setIfInBounds_toArray, List.set_cons_zero, List.set_cons_succ]
  refine take_at 5 (some 86) (.slice (some ⟨vb, off, none⟩) n vc) rfl rfl (by kernel_rfl) (by kernel_rfl) (by kernel_rfl) (fun _ _ _ h => h) (by rfl) (fun W hSw => by obtain ⟨q0, q1, q2, q3⟩ := hSw; go_simp <;> exact EP.out) hS0 ?_
  simp only [Act.put, List.setIfInBounds_toArray, List.set_cons_zero, List.set_cons_succ]
  refine take_at 6 (some 87) (.pointer (some ⟨vb, off, none⟩)) rfl rfl (by kernel_rfl) (by kernel_rfl) (by kernel_rfl) (fun _ _ _ h => h) (by rfl) (fun W hSw => by obtain ⟨q0, q1, q2, q3⟩ := hSw; go_simp <;> exact EP.out) hS0 ?_
  simp only [Act.put, List.setIfInBounds_toArray, List.set_cons_zero, List.set_cons_succ]
  refine take_at 7 (some 88) (.agg #[.bool y1, .int .i64 y2]) rfl rfl (by kernel_rfl) (by kernel_rfl) (by kernel_rfl) (fun _ _ _ h => h) (by rfl) (fun W hSw => by obtain ⟨q0, q1, q2, q3⟩ := hSw; go_simp <;> exact EP.out) hS0 ?_
  simp only [Act.put, List.setIfInBounds_toArray, List.set_cons_zero, List.set_cons_succ]
  refine wpAnyH_ready (rs := [8]) (by kernel_rfl) (by simp) ?_
  refine AllReadyH.cons rfl (fun K hK => ?_) AllReadyH.nil
  go_simp
  refine (hsb _).mono ?_
  rintro e w6 ⟨rfl, hb6⟩
  have hx6 := hx5.later hb6
  have hb6c := Below.chain hb5 hb6
  obtain ⟨u0, u1, u2, u3⟩ := HZ.out _ hb6
  have hS1 := (⟨u0, u1, u2, u3⟩ : (fun W : World => W.cell? ⟨vb, off + p * 2, none⟩ = some (Value.bool x1) ∧ W.cell? ⟨vb, off + p * 2 + 1, none⟩ = some (Value.int .i64 x2) ∧ W.cell? ⟨vb, off, none⟩ = some (Value.bool y1) ∧ W.cell? ⟨vb, off + 1, none⟩ = some (Value.int .i64 y2)) w6)
  refine hK.out _ _ hS1 (fun _ => ?_)
  clear hK K
  obtain ⟨c0, c1, g0, g1⟩ := id hx6
  obtain ⟨p0, p1, _, _⟩ := hx6.put (p := fo) (m := fn)
  have hv0 := set_keep w6 w.heap.size vb (off + p * 2) (.bool fo) (.int .i64 fn) hvb
  have hv1 := set_keep w6 w.heap.size vb (off + p * 2 + 1) (.bool fo) (.int .i64 fn) hvb
  have hv2 := set_keep w6 w.heap.size vb off (.bool fo) (.int .i64 fn) hvb
  have hv3 := set_keep w6 w.heap.size vb (off + 1) (.bool fo) (.int .i64 fn) hvb
  refine wpAnyH_ready (rs := [9]) (by kernel_rfl) (by simp) ?_
  refine AllReadyH.cons rfl (fun K hK => ?_) AllReadyH.nil
  go_simp
  have hS2 := (⟨hv0.trans u0, hv1.trans u1, hv2.trans u2, hv3.trans u3⟩ : (fun W : World => W.cell? ⟨vb, off + p * 2, none⟩ = some (Value.bool x1) ∧ W.cell? ⟨vb, off + p * 2 + 1, none⟩ = some (Value.int .i64 x2) ∧ W.cell? ⟨vb, off, none⟩ = some (Value.bool y1) ∧ W.cell? ⟨vb, off + 1, none⟩ = some (Value.int .i64 y2)) _)
  refine hK.out _ _ hS2 (fun _ => ?_)
  clear hK K
  refine wpAnyH_ready (rs := [10]) (by kernel_rfl) (by simp) ?_
  refine AllReadyH.cons rfl (fun K hK => ?_) AllReadyH.nil
  go_simp
  have hS3 := (⟨hv0.trans u0, hv1.trans u1, hv2.trans u2, hv3.trans u3⟩ : (fun W : World => W.cell? ⟨vb, off + p * 2, none⟩ = some (Value.bool x1) ∧ W.cell? ⟨vb, off + p * 2 + 1, none⟩ = some (Value.int .i64 x2) ∧ W.cell? ⟨vb, off, none⟩ = some (Value.bool y1) ∧ W.cell? ⟨vb, off + 1, none⟩ = some (Value.int .i64 y2)) _)
  refine hK.out _ _ hS3 (fun _ => ?_)
  clear hK K
  refine wpAnyH_done (by kernel_rfl) ?_ _
  refine NoPanic.normal ?_
  go_wp2
  exact bodyPost_ret (v := .tuple #[.agg #[.bool fo, .int .i64 fn], .bool true]) (by simp [results, Tryz.results50, go_sem, p0, p1]) rfl ⟨by rw [HQ1.out.1, HQ1.out.2], put2 hb6c (Nat.le_refl _) _ _⟩
theorem over_what (ao : Option Addr) (n cap : Nat) (l : List Smp) (dd : Int) (w : World) (hn : n ≤ 100) (hs : Ms w ao n l) (hl : ∀ s ∈ l, R64 s.2.2) :
  Calls Tryz.prog 50 #[.slice ao n cap, .string ⟨#[119, 104, 97, 116]⟩, .int .i64 dd] w fun e w' => e = .returned (.tuple #[.agg #[.bool false, .int .i64 0], .bool false]) ∧ Below w.heap.size w w' := by
 have hb0 := bal (Below.refl _ w) (.cells #[.bool false, .int .i64 0] 33)
 have hx0 := Box.new w false 0
 go_enter Tryz.func50, Tryz.ntmps50
 go_wp2_with fail
 refine (values_any ao n cap l _ (by omega) (hs.later hb0) hl).mono ?_
 rintro e w1 ⟨v1, rfl, ho1, hb1⟩
 obtain ⟨vo, vc, rfl, hns⟩ := ho1.slice
 have hx1 := hx0.later hb1
 have hb1c := Below.chain hb0 hb1
 clear hns hs hl ho1
 obtain ⟨c0, c1, g0, g1⟩ := id hx1
 obtain ⟨p0, p1, _, _⟩ := hx1.put (p := false) (m := 0)
 go_wp2
 exact bodyPost_ret (v := .tuple #[.agg #[.bool false, .int .i64 0], .bool false]) (by simp [results, Tryz.results50, go_sem, p0, p1]) rfl ⟨rfl, put2 hb1c (Nat.le_refl _) _ _⟩
end Go.Proofs.YtjgckfcocmhnhaaGreatDoor.Hy
