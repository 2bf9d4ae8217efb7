/- Texts that the others lean on. -/
import Derived.Laws.AppendOwnNone
import Derived.Deep.Cut
import Derived.Test.YteankdaegdhfiaaGreatDoorKYPg
import Derived.Test.YteankdaegdhfiaaGreatDoorKYRdP
import Derived.Test.YteankdaegdhfiaaGreatDoorKYRExact
namespace Go.Proofs.YteankdaegdhfiaaGreatDoor
open Go.RowKit
theorem Ts.cells {w : World} {b off n : Nat} {l : List Tk} (h : Ts w (some ⟨b, off, none⟩) n l) : ∀ j u, (cellsT l)[j]? = some u → w.cell? ((⟨b, off, none⟩ : Addr).add j) = some u := by
 intro j u hu
 have hl := h.1
 have hj : j < l.length * 6 := by
  by_cases hj : j < l.length * 6
  ·
   exact hj
  ·
   rw [List.getElem?_eq_none (by rw [cellsT_length]; omega)] at hu
   cases hu
 obtain ⟨b', off', e, hc⟩ := h.2 (by omega)
 injection e with e
 injection e with e1 e2 _
 subst e1 e2
 have q := hc (j / 6) (by omega) (j % 6) (by omega)
 rw [← cellsT_at l (j / 6) (j % 6) (by omega) (by omega)] at q
 have e : j / 6 * 6 + j % 6 = j := by omega
 rw [e, hu] at q
 rw [Addr.add_lit]
 have e2 : off + j / 6 * 6 + j % 6 = off + j := by omega
 rw [e2] at q
 exact q
theorem wp_geton {w : World} {ops : Array Oper} {rest : List Oper} {o : Oper} {a : Act} {Q : Exit → Act → World → Prop} (hgd : Region.wanted o (yielded ops a.tmps) = true) (ty : TypeId) (x : Operand) (ho : o.op = .load ty x) (g : Nat) (cs : Array Value) (t : TypeId)
  (hx : a.eval x = .pointer (some ⟨g, 0, none⟩)) (hold : w.heap[g]? = some (.cells cs t)) (d : TypeDesc) (hu : Tryz.prog.underlying ty = some d) (hd : d.isRow = true) (n : Nat) (hi : (Tryz.prog.info? ty).map (·.size) = some n) (hn : cs.size = n)
  (h : wpList Tryz.prog ops Q rest (a.put o.dst (.agg cs)) w) : wpList Tryz.prog ops Q (o :: rest) a w := by
 unfold wpList
 rw [if_pos hgd]
 refine Or.inl ?_
 refine wp_load_mid ty x ho g 0 hx cs.toList d (fun j v hv => ?_) hu hd (by rw [hi, ← hn]; simp) ?_
 ·
  rw [Nat.zero_add, cell_at hold]
  simpa using hv
 ·
  simpa using h
set_option maxHeartbeats 16000000 in
set_option maxRecDepth 20000 in
theorem reads_any (ao : Option Addr) (n c : Nat) (l : List Tk) (w : World) (hz : ao = none → n = 0 ∧ c = 0) (h : Ts w ao n l) (hb : ∀ y ∈ l, Big y.t) (he : Ev w) : Calls Tryz.prog 4 #[.slice ao n c] w fun e w' => e = .returned (.bool true) ∧ Below w.heap.size w w' := by
 have hk := known_any w he
 have HL : Hid (l.length = n) := h.1
 have HSm : Hid (Sm (rdX l)) := rdX_sm hb
 have HZ : Hid (ao = none → n = 0 ∧ c = 0) := hz
 obtain ⟨i0, hi, hz0, hz1, hz2⟩ := info_parts36
 clear he hb hz
 by_cases h80 : n ≤ 80
 ·
  have h80' : ¬ (80 : Int) < n := by omega
  go_enter Tryz.func4, Tryz.ntmps4
  go_wp2_with fail
  refine hk.mono ?_
  rintro e w1 ⟨rfl, B1⟩
  have T1 := h.later B1
  clear hk h
  go_wp2_with fail
  go_loopw [3] (fun t wr => ∃ k : Nat, t = .int .i64 k ∧ k ≤ n ∧ w1 = wr) (fun t _ => n - (intOf t).toNat)
  case atStart => exact ⟨0, rfl, by omega, rfl⟩
  case round =>
   obtain ⟨k, rfl, hkn, rfl⟩ := hrel
   by_cases hlt : k < n
   ·
    have hlt' : (k : Int) < n := by omega
    obtain ⟨b, off, rfl, hc0⟩ := T1.2 (by omega)
    clear hc0
    obtain ⟨c0, _, c2, _⟩ := T1.at k hlt
    obtain ⟨xk, hx⟩ : ∃ x, Hid ((l.getD k tk0).k = x) := ⟨_, rfl⟩
    obtain ⟨xt, hxt⟩ : ∃ x, Hid ((l.getD k tk0).t = x) := ⟨_, rfl⟩
    rw [hx.out] at c0
    rw [hxt.out] at c2
    by_cases q1 : xk < 0
    ·
     go_wp2_with fail
     go_ret
     exact ⟨rfl, B1⟩
    ·
     by_cases q2 : 5 < xk
     ·
      go_wp2_with fail
      go_ret
      exact ⟨rfl, B1⟩
     ·
      by_cases q3 : (100 : Int) < xt.length
      ·
       go_wp2_with fail
       go_ret
       exact ⟨rfl, B1⟩
      ·
       go_wp2_with fail
       go_roundw
       case rel => exact ⟨k + 1, rfl, by omega, by simp⟩
       case measure => simp [intOf]; omega
   ·
    have hlt' : ¬ (k : Int) < n := by omega
    have hfin : ∀ (v : Value) (w2 : World), OwnT w2 w1.heap.size v l → Below w1.heap.size w1 w2 → ∃ a2 c2, v = .slice a2 n c2 ∧ Ts w2 a2 n l ∧ Ts w2 ao n l ∧ Below w.heap.size w w2 := fun v w2 o b2 => by
     obtain ⟨a2, c2, e, t2, _⟩ := o.slice
     rw [HL.out] at e t2
     exact ⟨a2, c2, e, t2, T1.later b2, Below.chain B1 b2⟩
    have hrd := fun a c W (hW : Ts W a n l) => read_any a n c l W (by omega) hW
    have hrr := fun a c W (hW : Ts W a n l) => rread_any a n c l W (by omega) hW
    have hex := fun P P' => @rexact_ok P P' (rdX l)
    generalize rdA l = vA at *
    generalize rdE l = vE at *
    generalize rdX l = X at *
    cases ao with
    | none =>
     obtain ⟨rfl, rfl⟩ := HZ.out rfl
     have hl0 : l = [] := List.length_eq_zero_iff.1 HL.out
     obtain ⟨a2, c2, e2, t2, tt2, B2⟩ := hfin (.slice none 0 0) w1 (by rw [hl0]; exact OwnT.nil _ _) (Below.refl _ _)
     injection e2 with e3 _ e4
     subst e3 e4
     obtain ⟨w2, hw2⟩ : ∃ w2, w1 = w2 := ⟨_, rfl⟩
     subst hw2
     have o0 : World.ownsRow w1 w1.heap.size 39 6 (.slice none 0 0) 0 [] := ⟨rfl, Or.inl ⟨rfl, rfl⟩⟩
     clear hfin
     go_upto_region 10 with fail
     go_wp2_with (at_builtin; go_must (refine wpList_append_own_none rfl _ _ 37 rfl w1.heap.size 39 i0 6 Tryz.underlying37 hi (.slice none 0 0) 0 [] rfl o0 rfl ?_))
     have hc1 := hrd none 0 w1 t2
     go_wp2_with fail
     refine hc1.mono ?_
     rintro e w3 ⟨cs, rfl, tr3, b3⟩
     have row := tr3.row
     have B3 := Below.chain B2 b3
     have T3 := tt2.later b3
     clear hc1 b3
     go_upto_region 11 with (refine wp_new (w := w3) rfl 29 _ _ rfl zE cs rfl rfl 13 inf29 rfl row ?_; intro w4 l4 b4 s4)
     have B4 := Below.chain B3 b4
     have T4 := T3.later b4
     have H4 : Hid (Tr w1.heap.size w4 X cs) := tr3.later b4
     have hc2 := hrr none 0 w4 T4
     clear tr3 b4 T3 T4
     go_wp2_with fail
     refine hc2.mono ?_
     rintro e w5 ⟨ds, rfl, tr5, b5⟩
     have row5 := tr5.row
     have B5 := Below.chain B4 b5
     have l5 := below_heap b5 l4
     have H5 : Hid (Tr w1.heap.size w5 X cs) := Tr.later H4.out b5
     clear hc2 b5 l4 H4
     go_upto_region 12 with (refine wp_new (w := w5) rfl 29 _ _ rfl zE ds rfl rfl 13 inf29 rfl row5 ?_; intro w6 l6 b6 s6)
     have B6 := Below.chain B5 b6
     have l7 := below_heap b6 l5
     have hc3 := hex _ _ HSm.out w6 cs ds (Tr.later H5.out b6) (tr5.later b6)
     clear b6 l5 tr5
     go_wp2_with (first | (refine wp_geton (by rfl) 29 _ rfl w3.heap.size cs 29 rfl l7 _ Tryz.underlying29 rfl 13 inf29 row.1 ?_) | (refine wp_geton (by rfl) 29 _ rfl w5.heap.size ds 29 rfl l6 _ Tryz.underlying29 rfl 13 inf29 row5.1 ?_))
     refine hc3.mono ?_
     rintro e w7 ⟨rfl, b7⟩
     go_wp2_with fail
     go_ret
     exact ⟨rfl, Below.chain B6 b7⟩
    | some a =>
     have hnews : ∀ j u, (cellsT l)[j]? = some u → w1.cell? (a.add j) = some u := by
      by_cases hp : 0 < n
      ·
       obtain ⟨b, off, e, _⟩ := T1.2 hp
       injection e with e
       subst e
       exact T1.cells
      ·
       have hl0 : l = [] := List.length_eq_zero_iff.1 (by rw [HL.out]; omega)
       rw [hl0]
       intro j u hu
       simp [cellsT] at hu
     have HN : Hid (∀ j u, (cellsT l)[j]? = some u → w1.cell? (a.add j) = some u) := hnews
     have hlen : Hid ((cellsT l).length = n * 6) := by show _ = _; rw [cellsT_length, HL.out]
     have hone := cellsT_one l
     have HF : Hid (∀ (v : Value) (w2 : World), OwnT w2 w1.heap.size v l → Below w1.heap.size w1 w2 → ∃ a2 c2, v = .slice a2 n c2 ∧ Ts w2 a2 n l ∧ Ts w2 (some a) n l ∧ Below w.heap.size w w2) := hfin
     have o0 : World.ownsRow w1 w1.heap.size 39 6 (.slice none 0 0) 0 [] := ⟨rfl, Or.inl ⟨rfl, rfl⟩⟩
     have HO : Hid (∀ u ∈ cellsT l, u.oneCell' = true) := hone
     have HE : Hid (∀ (v : Value) (w2 : World), w2.ownsRow w1.heap.size 39 6 v n (cellsT l) → OwnT w2 w1.heap.size v l) := fun v w2 q => by
      unfold OwnT
      rw [HL.out]
      exact q
     clear hfin hnews hone
     go_upto_region 10 with fail
     go_wp2_with (at_builtin; go_must (refine wpList_append_own _ rfl _ _ 37 rfl w1.heap.size 39 i0 (.agg #[.int .i64 0, .int .i64 0, .string ⟨#[]⟩, .bool false, .int .i64 0, .int .i64 0]) 6 56 Tryz.underlying37 hi hz0 hz1 hz2 rfl (by decide) _ _ _ rfl o0 a n c (cellsT l) rfl hlen.out HN.out HO.out ?h63 ?hby ?hbs ?_))
     case h63 => unfold maxLen; omega
     case hby => omega
     intro v2 w2 own2 hg2 _
     obtain ⟨a2, c2, rfl, t2, tt2, B2⟩ := HF.out v2 w2 (HE.out _ _ own2) ((grown_off hg2).below (fun _ q => by cases q))
     clear own2 hg2 o0 HF HE HN HO
     have hc1 := hrd a2 c2 w2 t2
     go_wp2_with fail
     refine hc1.mono ?_
     rintro e w3 ⟨cs, rfl, tr3, b3⟩
     have row := tr3.row
     have B3 := Below.chain B2 b3
     have T3 := tt2.later b3
     clear hc1 b3
     go_upto_region 11 with (refine wp_new (w := w3) rfl 29 _ _ rfl zE cs rfl rfl 13 inf29 rfl row ?_; intro w4 l4 b4 s4)
     have B4 := Below.chain B3 b4
     have T4 := T3.later b4
     have H4 : Hid (Tr w2.heap.size w4 X cs) := tr3.later b4
     have hc2 := hrr (some a) c w4 T4
     clear tr3 b4 T3 T4
     go_wp2_with fail
     refine hc2.mono ?_
     rintro e w5 ⟨ds, rfl, tr5, b5⟩
     have row5 := tr5.row
     have B5 := Below.chain B4 b5
     have l5 := below_heap b5 l4
     have H5 : Hid (Tr w2.heap.size w5 X cs) := Tr.later H4.out b5
     clear hc2 b5 l4 H4
     go_upto_region 12 with (refine wp_new (w := w5) rfl 29 _ _ rfl zE ds rfl rfl 13 inf29 rfl row5 ?_; intro w6 l6 b6 s6)
     have B6 := Below.chain B5 b6
     have l7 := below_heap b6 l5
     have hc3 := hex _ _ HSm.out w6 cs ds (Tr.later H5.out b6) (tr5.later b6)
     clear b6 l5 tr5
     go_wp2_with (first | (refine wp_geton (by rfl) 29 _ rfl w3.heap.size cs 29 rfl l7 _ Tryz.underlying29 rfl 13 inf29 row.1 ?_) | (refine wp_geton (by rfl) 29 _ rfl w5.heap.size ds 29 rfl l6 _ Tryz.underlying29 rfl 13 inf29 row5.1 ?_))
     refine hc3.mono ?_
     rintro e w7 ⟨rfl, b7⟩
     go_wp2_with fail
     go_ret
     exact ⟨rfl, Below.chain B6 b7⟩
 ·
  have h80' : (80 : Int) < n := by omega
  go_enter Tryz.func4, Tryz.ntmps4
  go_wp2_with fail
  refine hk.mono ?_
  rintro e w1 ⟨rfl, B1⟩
  clear hk h
  go_wp2_with fail
  go_ret
  exact ⟨rfl, B1⟩
end Go.Proofs.YteankdaegdhfiaaGreatDoor
