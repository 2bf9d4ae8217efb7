/- With its value: The document's own Increase: that it answers, whatever it answers (its answer plays no part in a mean, a difference). -/
import Derived.Test.YthcakiibkocheaaCVal
import Derived.Test.YthcakiibkocheaaRefCmp
import Derived.Test.YthcakiibkocheaaRefSum
namespace Go.Proofs.Ythcakiibkocheaa
open Go.RowKit

theorem step_append {ops : Array Oper} {o : Oper} {a : Act} {W : World} {K : Act → World → Prop} {Q : Exit → Act → World → Prop} {E : Prop} (s x : Operand) (d : Option Tmp) (t : TypeId)
    (ho : o.op = .call { callee := .builtin .append, args := #[s, x], argTypes := #[t, t] }) (hd : o.dst = d) (hw : Region.wanted o (yielded ops a.tmps) = true)
    (base : Nat) (e : TypeId) (i : TypeInfo) (z : Value) (size bytes : Nat) (ht : Try.prog.underlying t = some (.slice e)) (hi : Try.prog.info? e = some i) (hz : i.zero = some z)
    (hsize : i.size = size) (hby : i.bytes = bytes) (hzs : z.cells.size = size) (hsz : 0 < size)
    (v : Value) (n : Nat) (xs : List Value) (hs : a.eval s = v) (hown : W.ownsRow base e size v n xs)
    (ad : Addr) (m c : Nat) (news : List Value) (hx : a.eval x = .slice (some ad) m c) (hl : news.length = m * size) (hnews : ∀ j u, news[j]? = some u → W.cell? (ad.add j) = some u) (h1 : ∀ u ∈ news, u.oneCell' = true)
    (h63 : n + m ≤ maxLen) (hbytes : (n + m) * bytes ≤ 140737488355328) (hbase : base ≤ W.heap.size)
    (h : ∀ v' w', w'.ownsRow base e size v' (n + m) (xs ++ news) → W.grownBy w' v.ownBlock → K (a.put d v') w') :
    if Region.wanted o (yielded ops a.tmps) = true then Oper.wp Try.prog o a W K Q else E := by
  subst hd
  rw [if_pos hw]
  exact wp_append_own W s x t ho base e i z size bytes ht hi hz hsize hby hzs hsz v n xs hs hown ad m c news hx hl hnews h1 h63 hbytes hbase fun v' w' h2 h3 _ => h v' w' h2 h3

/-- What a value adds to a counter's increase, behind the one ahead of it. -/
def incO (q s : Bool × Int) : Option Int := if fCmp (cnt s.1 s.2) (cnt q.1 q.2) < 0 then cnt s.1 s.2 else fAdd (cnt s.1 s.2) (fNeg (cnt q.1 q.2))
def incN (q s : Bool × Int) : Bool × Int := (ov (incO q s), nn (incO q s))
theorem incO_v (q s : Bool × Int) (h : R64 s.2) : V (incO q s) := by
  unfold incO
  split
  · exact V.cnt h.1 h.2
  · exact V.add _ _
def dls (l : List Smp) (p : Nat) : List (Bool × Int) := (List.range p).map fun j => incN (l.getD j s0).2 (l.getD (j + 1) s0).2
theorem dls_len (l : List Smp) (p : Nat) : (dls l p).length = p := by simp [dls]
theorem dls_snoc (l : List Smp) (p : Nat) : dls l (p + 1) = dls l p ++ [incN (l.getD p s0).2 (l.getD (p + 1) s0).2] := by simp [dls, List.range_succ]
theorem dls_r64 (l : List Smp) (h : ∀ s ∈ l, R64 s.2.2) (p : Nat) (hp : p + 1 ≤ l.length) : ∀ x ∈ dls l p, R64 x.2 := by
  intro x hx
  obtain ⟨j, hj, rfl⟩ := List.mem_map.1 hx
  have hj := List.mem_range.1 hj
  exact V.r64 (incO_v _ _ (h _ (getD_memS (by omega))))
/-- What a counter's samples rose by. -/
def incP (l : List Smp) : Option Int := fSum (cnts (dls l (l.length - 1)))
theorem inum (i n p : Nat) (h : p + 1 = i) (hi : i < n) (hn : n ≤ 100) : Hid (IntKind.i64.wrap ((i : Int) - 1) = (p : Int)) := by
  show _ = _
  rw [wI (by omega) (by omega)]
  omega
set_option maxHeartbeats 8000000 in
theorem inc_val (ao : Option Addr) (n cap : Nat) (l : List Smp) (w : World) (hn : n ≤ 100) (hs : Ms w ao n l) (hl : ∀ s ∈ l, R64 s.2.2) :
    Calls Try.prog 14 #[.slice ao n cap] w fun e w' => e = .returned (if n < 2 then .tuple #[.agg #[.bool false, .int .i64 0], .bool false] else .tuple #[.agg #[.bool (ov (incP l)), .int .i64 (nn (incP l))], .bool true]) ∧ Below w.heap.size w w' := by
  obtain ⟨i0, hi, hz0, hz1, hz2⟩ := infoN_parts
  have hb0 := bal (Below.refl _ w) (.cells #[.bool false, .int .i64 0] 28)
  have hx0 := Box.new w false 0
  by_cases h2 : n < 2
  · rw [if_pos h2]
    have d2 : decide ((n : Int) < 2) = true := decide_eq_true (by omega)
    go_enter Try.func14, Try.ntmps14
    go_wp2
    exact bodyPost_ret (v := .tuple #[.agg #[.bool false, .int .i64 0], .bool false]) (by simp [results, Try.results14, go_sem]) rfl ⟨rfl, hb0⟩
  · rw [if_neg h2]
    have d2 : decide ((n : Int) < 2) = false := decide_eq_false (by omega)
    obtain ⟨hla, hca⟩ := hs
    have HA : Hid (l.length = n) := hla
    obtain ⟨b, off, rfl, hc⟩ := hca (by omega)
    have HC : Hid (∀ W, Below w.heap.size w W → ∀ j, j < n → W.cell? ⟨b, off + j * 3 + 1, none⟩ = some (.bool (l.getD j s0).2.1) ∧ W.cell? ⟨b, off + j * 3 + 2, none⟩ = some (.int .i64 (l.getD j s0).2.2)) := by
      intro W hW j hj
      obtain ⟨c0, c1, c2⟩ := hc j hj
      exact ⟨(hW.cell (World.block_lt_of_cell? _ _ c1)).trans c1, (hW.cell (World.block_lt_of_cell? _ _ c2)).trans c2⟩
    have HRD : Hid (∀ p, p + 1 ≤ n → ∀ x ∈ dls l p, R64 x.2) := fun p hp => dls_r64 l hl p (by rw [HA.out]; exact hp)
    have HIP : Hid (incP l = fSum (cnts (dls l (n - 1)))) := by rw [← HA.out]; rfl
    have HR : Hid (∀ j, j < n → R64 (l.getD j s0).2.2) := fun j hj => hl _ (getD_memS (by rw [HA.out]; exact hj))
    clear hla hca hc hl
    go_enter Try.func14, Try.ntmps14
    go_wp2_with fail
    go_loopw [5, 4] (fun t v wr => ∃ (p i : Nat) (D : List (Bool × Int)) (vd : Value), Hid (p + 1 = i ∧ i ≤ n ∧ D = dls l p) ∧ t = .int .i64 i ∧ vd = v ∧ OwnN wr (w.heap.size + 1) vd D ∧ Box wr w.heap.size false 0 ∧ Below w.heap.size w wr) (fun t _ _ => n - (intOf t).toNat)
    case atStart => exact ⟨0, 1, [], _, ⟨rfl, by omega, rfl⟩, rfl, rfl, ⟨rfl, Or.inl ⟨rfl, rfl⟩⟩, hx0, hb0⟩
    case round =>
      obtain ⟨p, i, D, vd, HP, rfl, hvd, ho, hX, hb⟩ := hrel
      subst hvd
      obtain ⟨hpi, hin, hDe⟩ := HP.out
      have hDl : D.length = p := by rw [hDe, dls_len]
      clear hDe
      by_cases hlt : i < n
      · have hd : decide ((i : Int) < (n : Int)) = true := decide_eq_true (by omega)
        have hpn : p < n := by omega
        have EP := inum i n p hpi hlt hn
        have HZ : Hid (∀ W, Below w.heap.size w W → W.cell? ⟨b, off + i * 3 + 1, none⟩ = some (.bool (l.getD i s0).2.1) ∧ W.cell? ⟨b, off + i * 3 + 2, none⟩ = some (.int .i64 (l.getD i s0).2.2) ∧ W.cell? ⟨b, off + p * 3 + 1, none⟩ = some (.bool (l.getD p s0).2.1) ∧ W.cell? ⟨b, off + p * 3 + 2, none⟩ = some (.int .i64 (l.getD p s0).2.2)) :=
          fun W hW => ⟨(HC.out W hW i hlt).1, (HC.out W hW i hlt).2, (HC.out W hW p hpn).1, (HC.out W hW p hpn).2⟩
        have HD1 : Hid (D ++ [incN (l.getD p s0).2 (l.getD i s0).2] = dls l i) := by
          show _ = _
          rw [HP.out.2.2, ← hpi, dls_snoc]
        have hr1 := HR.out i hlt
        have hr2 := HR.out p hpn
        obtain ⟨z0, z1, z2, z3⟩ := HZ.out _ (hb.trans (Below.refl _ _).drew)
        generalize l.getD i s0 = s at *
        generalize l.getD p s0 = q at *
        obtain ⟨s0', s1, s2⟩ := s
        obtain ⟨t0, t1, t2⟩ := q
        dsimp only at *
        have hmx : n - (i + 1) < n - i := by omega
        have hi1 : i + 1 ≤ n := hlt
        have hDm : D.length + 1 ≤ 101 := by omega
        clear hDl hpi hin
        go_wp2_with fail
        obtain ⟨CB, hCB⟩ : ∃ CB : Bool, decide (fCmp (cnt s1 s2) (cnt t1 t2) < 0) = CB := ⟨_, rfl⟩
        have EC : Hid (decide (fCmp (cnt s1 s2) (cnt t1 t2) < 0) = CB) := hCB
        clear hCB
        have hS0 : (fun W : World => W.cell? ⟨b, off + i * 3 + 1, none⟩ = some (Value.bool s1) ∧ W.cell? ⟨b, off + i * 3 + 2, none⟩ = some (Value.int .i64 s2) ∧ W.cell? ⟨b, off + p * 3 + 1, none⟩ = some (Value.bool t1) ∧ W.cell? ⟨b, off + p * 3 + 2, none⟩ = some (Value.int .i64 t2)) _ := ⟨z0, z1, z2, z3⟩
        refine wp_region_noPanic ?_
        refine wp_region_held_drew (S := fun W : World => W.cell? ⟨b, off + i * 3 + 1, none⟩ = some (Value.bool s1) ∧ W.cell? ⟨b, off + i * 3 + 2, none⟩ = some (Value.int .i64 s2) ∧ W.cell? ⟨b, off + p * 3 + 1, none⟩ = some (Value.bool t1) ∧ W.cell? ⟨b, off + p * 3 + 2, none⟩ = some (Value.int .i64 t2)) (by kernel_rfl) hS0 (fun _ => ?_)
        refine take_at 0 (some 16) (.slice (some ⟨b, off, none⟩) n cap) rfl rfl (by kernel_rfl) (by kernel_rfl) (by kernel_rfl) (fun _ _ _ h => h) (by rfl) (fun W hSw => by obtain ⟨q0, q1, q2, q3⟩ := hSw; go_simp <;> exact EP.out) hS0 ?_
        simp only [Act.put, List.setIfInBounds_toArray, List.set_cons_zero, List.set_cons_succ]
        refine take_at 1 (some 17) (.int .i64 i) rfl rfl (by kernel_rfl) (by kernel_rfl) (by kernel_rfl) (fun _ _ _ h => h) (by rfl) (fun W hSw => by obtain ⟨q0, q1, q2, q3⟩ := hSw; go_simp <;> exact EP.out) hS0 ?_
        simp only [Act.put, List.setIfInBounds_toArray, List.set_cons_zero, List.set_cons_succ]
        refine take_at 2 (some 18) (.pointer (some ⟨b, off + i * 3, none⟩)) rfl rfl (by kernel_rfl) (by kernel_rfl) (by kernel_rfl) (fun _ _ _ h => h) (by rfl) (fun W hSw => by obtain ⟨q0, q1, q2, q3⟩ := hSw; go_simp <;> exact EP.out) hS0 ?_
        simp only [Act.put, List.setIfInBounds_toArray, List.set_cons_zero, List.set_cons_succ]
        refine take_at 3 (some 19) (.pointer (some ⟨b, off + i * 3 + 1, none⟩)) rfl rfl (by kernel_rfl) (by kernel_rfl) (by kernel_rfl) (fun _ _ _ h => h) (by rfl) (fun W hSw => by obtain ⟨q0, q1, q2, q3⟩ := hSw; go_simp <;> exact EP.out) hS0 ?_
        simp only [Act.put, List.setIfInBounds_toArray, List.set_cons_zero, List.set_cons_succ]
        refine take_at 4 (some 20) (.agg #[.bool s1, .int .i64 s2]) rfl rfl (by kernel_rfl) (by kernel_rfl) (by kernel_rfl) (fun _ _ _ h => h) (by rfl) (fun W hSw => by obtain ⟨q0, q1, q2, q3⟩ := hSw; go_simp <;> exact EP.out) hS0 ?_
        simp only [Act.put, List.setIfInBounds_toArray, List.set_cons_zero, List.set_cons_succ]
        refine take_at 5 (some 21) (.slice (some ⟨b, off, none⟩) n cap) rfl rfl (by kernel_rfl) (by kernel_rfl) (by kernel_rfl) (fun _ _ _ h => h) (by rfl) (fun W hSw => by obtain ⟨q0, q1, q2, q3⟩ := hSw; go_simp <;> exact EP.out) hS0 ?_
        simp only [Act.put, List.setIfInBounds_toArray, List.set_cons_zero, List.set_cons_succ]
        refine take_at 6 (some 22) (.int .i64 i) rfl rfl (by kernel_rfl) (by kernel_rfl) (by kernel_rfl) (fun _ _ _ h => h) (by rfl) (fun W hSw => by obtain ⟨q0, q1, q2, q3⟩ := hSw; go_simp <;> exact EP.out) hS0 ?_
        simp only [Act.put, List.setIfInBounds_toArray, List.set_cons_zero, List.set_cons_succ]
        refine take_at 7 (some 23) (.int .i64 p) rfl rfl (by kernel_rfl) (by kernel_rfl) (by kernel_rfl) (fun _ _ _ h => h) (by rfl) (fun W hSw => by obtain ⟨q0, q1, q2, q3⟩ := hSw; go_simp <;> exact EP.out) hS0 ?_
        simp only [Act.put, List.setIfInBounds_toArray, List.set_cons_zero, List.set_cons_succ]
        refine take_at 8 (some 24) (.pointer (some ⟨b, off + p * 3, none⟩)) rfl rfl (by kernel_rfl) (by kernel_rfl) (by kernel_rfl) (fun _ _ _ h => h) (by rfl) (fun W hSw => by obtain ⟨q0, q1, q2, q3⟩ := hSw; go_simp <;> exact EP.out) hS0 ?_
        simp only [Act.put, List.setIfInBounds_toArray, List.set_cons_zero, List.set_cons_succ]
        refine take_at 9 (some 25) (.pointer (some ⟨b, off + p * 3 + 1, none⟩)) rfl rfl (by kernel_rfl) (by kernel_rfl) (by kernel_rfl) (fun _ _ _ h => h) (by rfl) (fun W hSw => by obtain ⟨q0, q1, q2, q3⟩ := hSw; go_simp <;> exact EP.out) hS0 ?_
        simp only [Act.put, List.setIfInBounds_toArray, List.set_cons_zero, List.set_cons_succ]
        refine take_at 10 (some 26) (.agg #[.bool t1, .int .i64 t2]) rfl rfl (by kernel_rfl) (by kernel_rfl) (by kernel_rfl) (fun _ _ _ h => h) (by rfl) (fun W hSw => by obtain ⟨q0, q1, q2, q3⟩ := hSw; go_simp <;> exact EP.out) hS0 ?_
        simp only [Act.put, List.setIfInBounds_toArray, List.set_cons_zero, List.set_cons_succ]
        refine wpAnyH_ready (rs := [11]) (by kernel_rfl) (by simp) ?_
        refine AllReadyH.cons rfl (fun K hK => ?_) AllReadyH.nil
        go_simp
        refine (rcmp_any s1 t1 s2 t2 _ hr1 hr2).mono ?_
        rintro e w1 ⟨rfl, hb1⟩
        obtain ⟨y0, y1, y2, y3⟩ := HZ.out _ (Below.chain (hb.trans (Below.refl _ _).drew) hb1)
        have hS1 := (⟨y0, y1, y2, y3⟩ : (fun W : World => W.cell? ⟨b, off + i * 3 + 1, none⟩ = some (Value.bool s1) ∧ W.cell? ⟨b, off + i * 3 + 2, none⟩ = some (Value.int .i64 s2) ∧ W.cell? ⟨b, off + p * 3 + 1, none⟩ = some (Value.bool t1) ∧ W.cell? ⟨b, off + p * 3 + 2, none⟩ = some (Value.int .i64 t2)) w1)
        refine hK.out _ _ hS1 (fun _ => ?_)
        clear hK K
        refine take_at 12 (some 28) (.bool CB) rfl rfl (by kernel_rfl) (by kernel_rfl) (by kernel_rfl) (fun _ _ _ h => h) (by rfl) (fun W hSw => by go_simp <;> exact EC.out) hS1 ?_
        simp only [Act.put, List.setIfInBounds_toArray, List.set_cons_zero, List.set_cons_succ]
        refine wpAnyH_done (by kernel_rfl) ?_ _
        refine NoPanic.normal ?_
        have hbc := Below.chain (hb.trans (Below.refl _ _).drew) hb1
        have hoc := (ho.later (Below.refl _ wr).drew).later hb1
        have hX := (hX.later (Below.refl _ wr).drew).later hb1
        clear z0 z1 z2 z3 hb ho
        cases CB with
        | true =>
          obtain ⟨x0, x1, _, _⟩ := HZ.out _ hbc
          have HV : Hid (incN (t1, t2) (s1, s2) = (ov (cnt s1 s2), nn (cnt s1 s2))) := by
            show (ov (incO _ _), nn (incO _ _)) = _
            unfold incO
            rw [if_pos (of_decide_eq_true EC.out)]
          have hno := fun W => rnorm_any s1 s2 W hr1
          have hq : R64 (nn (cnt s1 s2)) := V.r64 (V.cnt hr1.1 hr1.2)
          generalize ov (cnt s1 s2) = fo at *
          generalize nn (cnt s1 s2) = fn at *
          go_wp2_with fail
          refine (hno _).mono ?_
          rintro e w2 ⟨rfl, hb2⟩
          have hx3 := Box.new w2 fo fn
          have hb3 := bal (Below.chain hbc hb2) (.cells #[.bool fo, .int .i64 fn] 28)
          have ho3 := (hoc.later hb2).later (bal (Below.refl _ _) (.cells #[.bool fo, .int .i64 fn] 28))
          have hX3 := (hX.later hb2).later (bal (Below.refl _ _) (.cells #[.bool fo, .int .i64 fn] 28))
          have hsz : w.heap.size + 1 ≤ (w2.alloc (.cells #[.bool fo, .int .i64 fn] 28)).heap.size := by have := hX3.lt; omega
          go_wp2_with (at_builtin; go_must (refine wpList_append_own _ rfl _ _ 60 rfl (w.heap.size + 1) 28 i0 (.agg #[.bool false, .int .i64 0]) 2 16 Try.underlying60 hi hz0 hz1 hz2 zeroN (by decide) _ _ _ rfl ho3 ⟨w2.heap.size, 0, none⟩ 1 1 (cellsN [(fo, fn)]) rfl rfl ?hnews (cellsN_one _) ?h63 ?hby ?hbs ?_))
          case hnews => exact fun i u hu => Box.cellsN (x := (fo, fn)) hx3 i u hu
          case h63 => unfold maxLen; omega
          case hby => omega
          case hbs => exact hsz
          intro v4 w4 ho4 hg4 _
          have hX4 := hX3.kept hg4 (fun e => by have := (World.ownsRow.lt ho3 _ e.symm).1; omega)
          have hb4 := hb3.grown hg4 hb3.size (fun k hk => by have := (World.ownsRow.lt ho3 k hk).1; omega)
          go_wp2
          go_roundw
          case rel => exact ⟨i, i + 1, _, _, ⟨rfl, hi1, by rw [← HV.out]; exact HD1.out⟩, by go_num, rfl, OwnN.snoc ho4, hX4, hb4⟩
          case measure => simp [intOf]; omega
        | false =>
          have hq : R64 (nn (fAdd (cnt s1 s2) (fNeg (cnt t1 t2)))) := V.r64 (V.add _ _)
          have HV : Hid (incN (t1, t2) (s1, s2) = (ov (fAdd (cnt s1 s2) (fNeg (cnt t1 t2))), nn (fAdd (cnt s1 s2) (fNeg (cnt t1 t2))))) := by
            show (ov (incO _ _), nn (incO _ _)) = _
            unfold incO
            rw [if_neg (of_decide_eq_false EC.out)]
          have hsb := fun W => rsub_any s1 t1 s2 t2 W hr1 hr2
          generalize ov (fAdd (cnt s1 s2) (fNeg (cnt t1 t2))) = fo at *
          generalize nn (fAdd (cnt s1 s2) (fNeg (cnt t1 t2))) = fn at *
          go_wp2_with fail
          have hbd := hbc.trans (Below.refl _ _).drew
          have hod := hoc.later (Below.refl _ w1).drew
          have hX := hX.later (Below.refl _ w1).drew
          obtain ⟨v0, v1, v2, v3⟩ := HZ.out _ hbd
          have hS0 : (fun W : World => W.cell? ⟨b, off + i * 3 + 1, none⟩ = some (Value.bool s1) ∧ W.cell? ⟨b, off + i * 3 + 2, none⟩ = some (Value.int .i64 s2) ∧ W.cell? ⟨b, off + p * 3 + 1, none⟩ = some (Value.bool t1) ∧ W.cell? ⟨b, off + p * 3 + 2, none⟩ = some (Value.int .i64 t2)) _ := ⟨v0, v1, v2, v3⟩
          refine wp_region_noPanic ?_
          refine wp_region_held_drew (S := fun W : World => W.cell? ⟨b, off + i * 3 + 1, none⟩ = some (Value.bool s1) ∧ W.cell? ⟨b, off + i * 3 + 2, none⟩ = some (Value.int .i64 s2) ∧ W.cell? ⟨b, off + p * 3 + 1, none⟩ = some (Value.bool t1) ∧ W.cell? ⟨b, off + p * 3 + 2, none⟩ = some (Value.int .i64 t2)) (by kernel_rfl) hS0 (fun _ => ?_)
          refine take_at 0 (some 38) (vd) rfl rfl (by kernel_rfl) (by kernel_rfl) (by kernel_rfl) (fun _ _ _ h => h) (by rfl) (fun W hSw => by obtain ⟨q0, q1, q2, q3⟩ := hSw; go_simp <;> exact EP.out) hS0 ?_
          simp only [Act.put, List.setIfInBounds_toArray, List.set_cons_zero, List.set_cons_succ]
          refine take_at 1 (some 39) (.slice (some ⟨b, off, none⟩) n cap) rfl rfl (by kernel_rfl) (by kernel_rfl) (by kernel_rfl) (fun _ _ _ h => h) (by rfl) (fun W hSw => by obtain ⟨q0, q1, q2, q3⟩ := hSw; go_simp <;> exact EP.out) hS0 ?_
          simp only [Act.put, List.setIfInBounds_toArray, List.set_cons_zero, List.set_cons_succ]
          refine take_at 2 (some 40) (.int .i64 i) rfl rfl (by kernel_rfl) (by kernel_rfl) (by kernel_rfl) (fun _ _ _ h => h) (by rfl) (fun W hSw => by obtain ⟨q0, q1, q2, q3⟩ := hSw; go_simp <;> exact EP.out) hS0 ?_
          simp only [Act.put, List.setIfInBounds_toArray, List.set_cons_zero, List.set_cons_succ]
          refine take_at 3 (some 41) (.pointer (some ⟨b, off + i * 3, none⟩)) rfl rfl (by kernel_rfl) (by kernel_rfl) (by kernel_rfl) (fun _ _ _ h => h) (by rfl) (fun W hSw => by obtain ⟨q0, q1, q2, q3⟩ := hSw; go_simp <;> exact EP.out) hS0 ?_
          simp only [Act.put, List.setIfInBounds_toArray, List.set_cons_zero, List.set_cons_succ]
          refine take_at 4 (some 42) (.pointer (some ⟨b, off + i * 3 + 1, none⟩)) rfl rfl (by kernel_rfl) (by kernel_rfl) (by kernel_rfl) (fun _ _ _ h => h) (by rfl) (fun W hSw => by obtain ⟨q0, q1, q2, q3⟩ := hSw; go_simp <;> exact EP.out) hS0 ?_
          simp only [Act.put, List.setIfInBounds_toArray, List.set_cons_zero, List.set_cons_succ]
          refine take_at 5 (some 43) (.agg #[.bool s1, .int .i64 s2]) rfl rfl (by kernel_rfl) (by kernel_rfl) (by kernel_rfl) (fun _ _ _ h => h) (by rfl) (fun W hSw => by obtain ⟨q0, q1, q2, q3⟩ := hSw; go_simp <;> exact EP.out) hS0 ?_
          simp only [Act.put, List.setIfInBounds_toArray, List.set_cons_zero, List.set_cons_succ]
          refine take_at 6 (some 44) (.slice (some ⟨b, off, none⟩) n cap) rfl rfl (by kernel_rfl) (by kernel_rfl) (by kernel_rfl) (fun _ _ _ h => h) (by rfl) (fun W hSw => by obtain ⟨q0, q1, q2, q3⟩ := hSw; go_simp <;> exact EP.out) hS0 ?_
          simp only [Act.put, List.setIfInBounds_toArray, List.set_cons_zero, List.set_cons_succ]
          refine take_at 7 (some 45) (.int .i64 i) rfl rfl (by kernel_rfl) (by kernel_rfl) (by kernel_rfl) (fun _ _ _ h => h) (by rfl) (fun W hSw => by obtain ⟨q0, q1, q2, q3⟩ := hSw; go_simp <;> exact EP.out) hS0 ?_
          simp only [Act.put, List.setIfInBounds_toArray, List.set_cons_zero, List.set_cons_succ]
          refine take_at 8 (some 46) (.int .i64 p) rfl rfl (by kernel_rfl) (by kernel_rfl) (by kernel_rfl) (fun _ _ _ h => h) (by rfl) (fun W hSw => by obtain ⟨q0, q1, q2, q3⟩ := hSw; go_simp <;> exact EP.out) hS0 ?_
          simp only [Act.put, List.setIfInBounds_toArray, List.set_cons_zero, List.set_cons_succ]
          refine take_at 9 (some 47) (.pointer (some ⟨b, off + p * 3, none⟩)) rfl rfl (by kernel_rfl) (by kernel_rfl) (by kernel_rfl) (fun _ _ _ h => h) (by rfl) (fun W hSw => by obtain ⟨q0, q1, q2, q3⟩ := hSw; go_simp <;> exact EP.out) hS0 ?_
          simp only [Act.put, List.setIfInBounds_toArray, List.set_cons_zero, List.set_cons_succ]
          refine take_at 10 (some 48) (.pointer (some ⟨b, off + p * 3 + 1, none⟩)) rfl rfl (by kernel_rfl) (by kernel_rfl) (by kernel_rfl) (fun _ _ _ h => h) (by rfl) (fun W hSw => by obtain ⟨q0, q1, q2, q3⟩ := hSw; go_simp <;> exact EP.out) hS0 ?_
          simp only [Act.put, List.setIfInBounds_toArray, List.set_cons_zero, List.set_cons_succ]
          refine take_at 11 (some 49) (.agg #[.bool t1, .int .i64 t2]) rfl rfl (by kernel_rfl) (by kernel_rfl) (by kernel_rfl) (fun _ _ _ h => h) (by rfl) (fun W hSw => by obtain ⟨q0, q1, q2, q3⟩ := hSw; go_simp <;> exact EP.out) hS0 ?_
          simp only [Act.put, List.setIfInBounds_toArray, List.set_cons_zero, List.set_cons_succ]
          refine wpAnyH_ready (rs := [12]) (by kernel_rfl) (by simp) ?_
          refine AllReadyH.cons rfl (fun K hK => ?_) AllReadyH.nil
          go_simp
          refine (hsb _).mono ?_
          rintro e w2 ⟨rfl, hb2⟩
          have hb2c := Below.chain hbd hb2
          obtain ⟨y0, y1, y2, y3⟩ := HZ.out _ hb2c
          have hS2 := (⟨y0, y1, y2, y3⟩ : (fun W : World => W.cell? ⟨b, off + i * 3 + 1, none⟩ = some (Value.bool s1) ∧ W.cell? ⟨b, off + i * 3 + 2, none⟩ = some (Value.int .i64 s2) ∧ W.cell? ⟨b, off + p * 3 + 1, none⟩ = some (Value.bool t1) ∧ W.cell? ⟨b, off + p * 3 + 2, none⟩ = some (Value.int .i64 t2)) w2)
          refine hK.out _ _ hS2 (fun _ => ?_)
          clear hK K
          have hx3 := Box.new w2 fo fn
          have hb3 := bal hb2c (.cells #[.bool fo, .int .i64 fn] 28)
          have ho3 := (hod.later hb2).later (bal (Below.refl _ _) (.cells #[.bool fo, .int .i64 fn] 28))
          have hX3 := (hX.later hb2).later (bal (Below.refl _ _) (.cells #[.bool fo, .int .i64 fn] 28))
          obtain ⟨u0, u1, u2, u3⟩ := HZ.out _ hb3
          refine wpAnyH_ready (rs := [13]) (by kernel_rfl) (by simp) ?_
          refine AllReadyH.cons rfl (fun K hK => ?_) AllReadyH.nil
          go_simp
          have hS3 := (⟨u0, u1, u2, u3⟩ : (fun W : World => W.cell? ⟨b, off + i * 3 + 1, none⟩ = some (Value.bool s1) ∧ W.cell? ⟨b, off + i * 3 + 2, none⟩ = some (Value.int .i64 s2) ∧ W.cell? ⟨b, off + p * 3 + 1, none⟩ = some (Value.bool t1) ∧ W.cell? ⟨b, off + p * 3 + 2, none⟩ = some (Value.int .i64 t2)) (w2.alloc (.cells #[.bool fo, .int .i64 fn] 28)))
          refine hK.out _ _ hS3 (fun _ => ?_)
          clear hK K
          have hsz : w.heap.size + 1 ≤ (w2.alloc (.cells #[.bool fo, .int .i64 fn] 28)).heap.size := by have := hX3.lt; omega
          refine wpAnyH_ready (rs := [14]) (by kernel_rfl) (by simp) ?_
          refine AllReadyH.cons rfl (fun K hK => ?_) AllReadyH.nil
          refine step_append _ _ (some 52) 60 rfl rfl (by rfl) (w.heap.size + 1) 28 i0 (.agg #[.bool false, .int .i64 0]) 2 16 Try.underlying60 hi hz0 hz1 hz2 zeroN (by decide) vd _ _ rfl ho3 ⟨w2.heap.size, 0, none⟩ 1 1 (cellsN [(fo, fn)]) rfl rfl (fun q u hu => Box.cellsN (x := (fo, fn)) hx3 q u hu) (cellsN_one _) (by unfold maxLen; omega) (by omega) hsz ?_
          intro v4 w4 ho4 hg4
          have hX4 := hX3.kept hg4 (fun e => by have := (World.ownsRow.lt ho3 _ e.symm).1; omega)
          have hb4 := hb3.grown hg4 hb3.size (fun k hk => by have := (World.ownsRow.lt ho3 k hk).1; omega)
          obtain ⟨u0, u1, u2, u3⟩ := HZ.out _ hb4
          have hS4 := (⟨u0, u1, u2, u3⟩ : (fun W : World => W.cell? ⟨b, off + i * 3 + 1, none⟩ = some (Value.bool s1) ∧ W.cell? ⟨b, off + i * 3 + 2, none⟩ = some (Value.int .i64 s2) ∧ W.cell? ⟨b, off + p * 3 + 1, none⟩ = some (Value.bool t1) ∧ W.cell? ⟨b, off + p * 3 + 2, none⟩ = some (Value.int .i64 t2)) w4)
          refine hK.out _ _ hS4 (fun _ => ?_)
          clear hK K
          refine take_at 15 (some 4) (v4) rfl rfl (by kernel_rfl) (by kernel_rfl) (by kernel_rfl) (fun _ _ _ h => h) (by rfl) (fun W hSw => by obtain ⟨q0, q1, q2, q3⟩ := hSw; go_simp <;> exact EP.out) hS4 ?_
          simp only [Act.put, List.setIfInBounds_toArray, List.set_cons_zero, List.set_cons_succ]
          refine wpAnyH_done (by kernel_rfl) ?_ _
          refine NoPanic.normal ?_
          go_wp2
          go_roundw
          case rel => exact ⟨i, i + 1, _, _, ⟨rfl, hi1, by rw [← HV.out]; exact HD1.out⟩, by go_num, rfl, OwnN.snoc ho4, hX4, hb4⟩
          case measure => simp [intOf]; omega
      · have hd : decide ((i : Int) < (n : Int)) = false := decide_eq_false (by omega)
        obtain rfl : i = n := by omega
        have hDr := HRD.out p (by omega)
        rw [← HP.out.2.2] at hDr
        have HIQ : Hid (incP l = fSum (cnts D)) := by show _ = _; rw [HIP.out, HP.out.2.2, show i - 1 = p by omega]
        obtain ⟨ao, cp, rfl, hns⟩ := ho.slice
        have hsu := fun W hW => rsum_any ao D.length cp D W (by omega) hW hDr
        have HOV : Hid (ov (incP l) = ov (fSum (cnts D)) ∧ nn (incP l) = nn (fSum (cnts D))) := by rw [HIQ.out]; exact ⟨rfl, rfl⟩
        generalize ov (fSum (cnts D)) = fo at *
        generalize nn (fSum (cnts D)) = fn at *
        generalize D.length = dn at *
        clear hDl hpi hin HP
        go_wp2_with fail
        refine (hsu _ hns).mono ?_
        rintro e w1 ⟨rfl, hb1⟩
        have hx1 := hX.later hb1
        obtain ⟨c0, c1, g0, g1⟩ := id hx1
        obtain ⟨p0, p1, _, _⟩ := hx1.put (p := fo) (m := fn)
        go_wp2
        exact bodyPost_ret (v := .tuple #[.agg #[.bool fo, .int .i64 fn], .bool true]) (by simp [results, Try.results14, go_sem, p0, p1]) rfl ⟨by rw [HOV.out.1, HOV.out.2], put2 (Below.chain hb hb1) (Nat.le_refl _) _ _⟩
end Go.Proofs.Ythcakiibkocheaa
