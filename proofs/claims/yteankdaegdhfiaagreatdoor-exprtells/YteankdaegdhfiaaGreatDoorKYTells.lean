/- Texts that the others lean on. -/
import Derived.Test.YteankdaegdhfiaaGreatDoorKYPg
import Derived.Test.YteankdaegdhfiaaGreatDoorKYRdP
import Derived.Test.YteankdaegdhfiaaGreatDoorKYRExact
import Derived.Test.YteankdaegdhfiaaGreatDoorKXRefScan
namespace Go.Proofs.YteankdaegdhfiaaGreatDoor
open Go.RowKit
set_option maxHeartbeats 4000000 in
theorem rparse_any (s : Str) (w : World) (hs : s.length ≤ 1000) : Calls Tryz.prog 14 #[tx s] w fun e w' => ∃ cs, e = .returned (.tuple #[.agg cs, .int .i64 (psA s), .int .i64 (psE s)]) ∧ Tr w.heap.size w' (psX s) cs ∧ Below w.heap.size w w' := by
 have hsc := refScan_any s (w.alloc (.cells zE 29)) hs
 have hlen := scL_len s
 have r0 := heap_new w (.cells zE 29)
 have B0 := bal (Below.refl w.heap.size w) (.cells zE 29)
 have zz := size_le w (.cells zE 29)
 have HA : Hid (psA s = if scE s = 0 then rdA (scL s) else scP s) := rfl
 have HE : Hid (psE s = if scE s = 0 then rdE (scL s) else scE s) := rfl
 have HX : Hid (psX s = if scE s = 0 then rdX (scL s) else ex0) := rfl
 generalize psA s = vA at *
 generalize psE s = vE at *
 generalize psX s = vX at *
 generalize scE s = e0 at *
 generalize scP s = p0 at *
 generalize scL s = L at *
 go_enter Tryz.func14, Tryz.ntmps14
 go_wp2_with fail
 refine hsc.mono ?_
 rintro e w1 ⟨v, rfl, own1, b1⟩
 have r1 := below_heap b1 r0
 have B1 := Below.chain B0 b1
 obtain ⟨ao, cap, rfl, ts1, _, _⟩ := own1.slice
 have z1 := b1.size
 have hlt : w.heap.size < w1.heap.size := by omega
 clear hsc r0 B0 b1 z1 zz
 by_cases h0 : e0 = 0
 ·
  subst h0
  rw [if_pos rfl] at HA HE HX
  have hrd := rread_any ao L.length cap L w1 (by omega) ts1
  rw [← HA.out, ← HE.out, ← HX.out] at hrd
  clear HA HE HX ts1 own1
  go_wp2_with fail
  refine hrd.mono ?_
  rintro e w2 ⟨cs, rfl, t2, b2⟩
  have row := t2.row
  have r2 := below_heap b2 r1
  have B2 := Below.chain B1 b2
  have z2 := b2.size
  have H2 : Hid (Tr w1.heap.size w2 vX cs) := t2
  clear hrd r1 B1 b2 t2
  go_wp2_with (refine wp_put rfl 29 _ _ rfl w.heap.size cs rfl rfl _ 29 r2 13 inf29 rfl row ?_; intro we re oe ze)
  have t9 : Tr w1.heap.size we vX cs := Tr.off oe (by simp <;> omega) _ H2.out
  exact bodyPost_ret (results_three Tryz.results14 _ _ w.heap.size 29 cs _ rfl re Tryz.underlying29 rfl 13 inf29 row.1) rfl ⟨cs, rfl, Tr.lower (lo := w1.heap.size) (Nat.le_of_lt hlt) _ t9, ((Off.of B2 []).trans oe (by simp)).below (by simp)⟩
 ·
  rw [if_neg h0] at HA HE HX
  have hA := HA.out
  have hE := HE.out
  have hX := HX.out
  have h0' : (e0 != 0) = true := by rw [bne_iff_ne]; exact h0
  clear HA HE HX ts1 own1 h0
  subst hA hE hX
  go_wp2_with (refine wp_put rfl 29 _ _ rfl w.heap.size zE rfl rfl _ 29 r1 13 inf29 rfl rowZ ?_; intro we re oe ze)
  exact bodyPost_ret (results_three Tryz.results14 _ _ w.heap.size 29 zE _ rfl re Tryz.underlying29 rfl 13 inf29 rfl) rfl ⟨zE, rfl, Tr.leaf (Sl.nil _ _ _) (Sl.nil _ _ _), ((Off.of B1 []).trans oe (by simp)).below (by simp)⟩
theorem wp_geton8 {w : World} {ops : Array Oper} {rest : List Oper} {o : Oper} {a : Act} {Q : Exit → Act → World → Prop} (hgd : Region.wanted o (yielded ops a.tmps) = true) (ty : TypeId) (x : Operand) (ho : o.op = .load ty x) (g : Nat) (cs : Array Value) (t : TypeId)
  (hx : a.eval x = .pointer (some ⟨g, 0, none⟩)) (hold : w.heap[g]? = some (.cells cs t)) (d : TypeDesc) (hu : Tryz.prog.underlying ty = some d) (hd : d.isRow = true) (n : Nat) (hi : (Tryz.prog.info? ty).map (·.size) = some n) (hn : cs.size = n)
  (h : wpList Tryz.prog ops Q rest (a.put o.dst (.agg cs)) w) : wpList Tryz.prog ops Q (o :: rest) a w := by
 unfold wpList
 rw [if_pos hgd]
 refine Or.inl ?_
 refine wp_load_mid ty x ho g 0 hx cs.toList d (fun j v hv => ?_) hu hd (by rw [hi, ← hn]; simp) ?_
 ·
  rw [Nat.zero_add, cell_at hold]
  simpa using hv
 ·
  simpa using h
set_option maxHeartbeats 16000000 in
set_option maxRecDepth 20000 in
theorem etells_any (s : Str) (w : World) (_hb : s.length ≤ 9223372036854775807) (he : Ev w) : Calls Tryz.prog 3 #[tx s] w fun e w' => e = .returned (.bool true) ∧ Below w.heap.size w w' := by
 have hk := known_any w he
 by_cases h6 : s.length ≤ 620
 ·
  have h6' : ¬ (620 : Int) < s.length := by omega
  have HSm : Hid (Sm (psX s)) := (smB_ok _ (ps_fine s).1).1
  have hps := fun W (hW : Ev W) => parse_any s W (by omega) hW
  have hrs := fun W => rparse_any s W (by omega)
  have hex := fun P P' => @rexact_ok P P' (psX s)
  generalize psA s = vA at *
  generalize psE s = vE at *
  generalize psX s = X at *
  go_enter Tryz.func3, Tryz.ntmps3
  go_wp2_with fail
  refine hk.mono ?_
  rintro e w1 ⟨rfl, B1⟩
  have hc1 := hps w1 (he.later B1)
  clear hk hps he
  go_wp2_with fail
  refine hc1.mono ?_
  rintro e w3 ⟨cs, rfl, tr3, b3⟩
  have row := tr3.row
  have B3 := Below.chain B1 b3
  clear hc1 b3
  go_upto_region 6 with (refine wp_new (w := w3) rfl 29 _ _ rfl zE cs rfl rfl 13 inf29 rfl row ?_; intro w4 l4 b4 s4)
  have B4 := Below.chain B3 b4
  have H4 : Hid (Tr w1.heap.size w4 X cs) := tr3.later b4
  have hc2 := hrs w4
  clear tr3 b4 hrs
  go_wp2_with fail
  refine hc2.mono ?_
  rintro e w5 ⟨ds, rfl, tr5, b5⟩
  have row5 := tr5.row
  have B5 := Below.chain B4 b5
  have l5 := below_heap b5 l4
  have H5 : Hid (Tr w1.heap.size w5 X cs) := Tr.later H4.out b5
  clear hc2 b5 l4 H4
  go_upto_region 7 with (refine wp_new (w := w5) rfl 29 _ _ rfl zE ds rfl rfl 13 inf29 rfl row5 ?_; intro w6 l6 b6 s6)
  have B6 := Below.chain B5 b6
  have l7 := below_heap b6 l5
  have hc3 := hex _ _ HSm.out w6 cs ds (Tr.later H5.out b6) (tr5.later b6)
  clear b6 l5 tr5
  go_wp2_with (first | (refine wp_geton8 (by rfl) 29 _ rfl w3.heap.size cs 29 rfl l7 _ Tryz.underlying29 rfl 13 inf29 row.1 ?_) | (refine wp_geton8 (by rfl) 29 _ rfl w5.heap.size ds 29 rfl l6 _ Tryz.underlying29 rfl 13 inf29 row5.1 ?_))
  refine hc3.mono ?_
  rintro e w7 ⟨rfl, b7⟩
  go_wp2_with fail
  go_ret
  exact ⟨rfl, Below.chain B6 b7⟩
 ·
  have h6' : (620 : Int) < s.length := by omega
  go_enter Tryz.func3, Tryz.ntmps3
  go_wp2_with fail
  refine hk.mono ?_
  rintro e w1 ⟨rfl, B1⟩
  clear hk
  go_wp2_with fail
  go_ret
  exact ⟨rfl, B1⟩
end Go.Proofs.YteankdaegdhfiaaGreatDoor
