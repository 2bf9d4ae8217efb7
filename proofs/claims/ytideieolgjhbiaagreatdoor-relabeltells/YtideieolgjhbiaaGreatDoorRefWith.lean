/- The reference's With: as the program's. -/
import Derived.Test.YtideieolgjhbiaaGreatDoorRefWPlain
import Derived.Test.YtideieolgjhbiaaGreatDoorSmall
namespace Go.Proofs.YtideieolgjhbiaaGreatDoor
open Go.RowKit

theorem Ps.new (w : World) (p : Pr) : Ps (w.alloc (.cells #[tx p.1, tx p.2] 44)) (some ⟨w.heap.size, 0, none⟩) 1 [p] := by
  have h := Box.new w p
  refine ⟨rfl, fun _ => ⟨_, 0, rfl, fun j hj => ?_⟩⟩
  obtain rfl : j = 0 := by omega
  exact ⟨h.c0, h.c1⟩
theorem filter_take {l : List Pr} {f : Pr → Bool} {j : Nat} (hj : j < l.length) : (l.take (j + 1)).filter f = (l.take j).filter f ++ (if f (l.getD j ([], [])) = true then [l.getD j ([], [])] else []) := by
  rw [List.take_succ_eq_append_getElem hj, List.filter_append, getD_at hj]
  congr 1
  by_cases h : f l[j] = true
  · simp [h]
  · simp [h]
def othUp (out : List Pr) (n : Str) (k : Nat) : List Pr := (out.take k).filter fun x => !decide (x.1 = n)
def wfUp (l p : List Pr) (j : Nat) : List Pr := wf l (p.take j)
theorem wfUp_succ {l p : List Pr} {j : Nat} (hj : j < p.length) : wfUp l p (j + 1) = st (wfUp l p j) (p.getD j ([], [])) := by
  unfold wfUp wf
  rw [List.take_succ_eq_append_getElem hj, List.foldl_append, getD_at hj]
  rfl
theorem wfUp_len (l p : List Pr) (j : Nat) : (wfUp l p j).length ≤ l.length + j := by
  induction j with
  | zero => simp [wfUp, wf]
  | succ j ih =>
    by_cases hj : j < p.length
    · rw [wfUp_succ hj]
      generalize p.getD j ([], []) = q
      unfold st
      rw [List.length_append]
      have h1 := List.length_filter_le (fun x : Pr => !decide (x.1 = q.1)) (wfUp l p j)
      have h2 : (if q.2 = [] then [] else [q]).length ≤ 1 := by split <;> simp
      omega
    · have e : wfUp l p (j + 1) = wfUp l p j := by
        unfold wfUp
        rw [List.take_of_length_le (by omega), List.take_of_length_le (by omega)]
      rw [e]; omega
theorem wf_sub {l p : List Pr} : ∀ x ∈ wf l p, x ∈ l ++ p := by
  unfold wf
  induction p generalizing l with
  | nil => intro x hx; simpa using hx
  | cons q p ih =>
    intro x hx
    rcases List.mem_append.1 (ih x hx) with h | h
    · rcases (st_mem _ _ _).1 h with ⟨h, _⟩ | ⟨rfl, _⟩
      · exact List.mem_append_left _ h
      · exact List.mem_append_right _ List.mem_cons_self
    · exact List.mem_append_right _ (List.mem_cons_of_mem _ h)

set_option maxRecDepth 100000 in
set_option maxHeartbeats 3000000 in
theorem refWith_any (xa : Option Addr) (n c : Nat) (l : List Pr) (ya : Option Addr) (m d : Nat) (p : List Pr) (w : World) (hn : n ≤ 10000) (hm : m ≤ 10000) (hf : Fit l) (hfp : Fit p) (hx : Ps w xa n l) (hy : Ps w ya m p) :
    Calls Tryz.prog 25 #[.slice xa n c, .slice ya m d] w fun e w' => ∃ v, e = .returned (.tuple #[v, .bool (decide (withE l p = 0))]) ∧ Own w' w.heap.size v (withL l p) ∧ Below w.heap.size w w' := by
  have his := refIs_any xa n c l w (by omega) hf hx
  cases hil : fIs l with
  | false =>
    have HE : Hid (withE l p = 30) := by show _ = _; unfold withE; rw [hil]; rfl
    have HLL : Hid (withL l p = []) := by show _ = _; unfold withL; rw [HE.out]; rfl
    rw [hil] at his
    clear hil
    go_enter Tryz.func25, Tryz.ntmps25
    go_wp2_with fail
    refine his.mono ?_
    rintro e w1 ⟨rfl, hb1⟩
    go_wp2
    go_ret2
    exact ⟨_, by rw [HE.out]; rfl, by rw [HLL.out]; exact Own.none _ _, hb1⟩
  | true =>
    rw [hil] at his
    have HIL : Hid _ := hil
    have HLn : Hid (l.length = n) := hx.1
    obtain ⟨hlen, hcell⟩ := hy
    have HL : Hid (p.length = m) := hlen
    clear hlen hil
    go_enter Tryz.func25, Tryz.ntmps25
    go_wp2_with fail
    refine his.mono ?_
    rintro e w1 ⟨rfl, hb1⟩
    have hx1 := hx.later hb1
    clear his hx
    go_wp2_with (at_builtin; go_must (refine wp_app rfl _ _ rfl w.heap.size (.slice none 0 0) [] l xa n c rfl rfl (Own.none _ _) hx1 hb1 (Nat.le_refl _) (by simp; omega) ?_; intro v2 w2 o2 b2))
    rw [List.nil_append] at o2
    have HW0 : Hid (l = wfUp l p 0) := by show _ = _; simp [wfUp, wf]
    rw [HW0.out] at o2
    have hl0 : (wfUp l p 0).length ≤ n + 0 := by have := wfUp_len l p 0; rw [HLn.out] at this; exact this
    clear hx1 HW0
    go_loopw [7, 6] (fun i u W => ∃ (j : Nat) (v : Value) (out : List Pr), j ≤ m ∧ i = .int .i64 j ∧ v = u ∧ Own W w.heap.size v out ∧ Hid (out = wfUp l p j) ∧ out.length ≤ n + j ∧ Below w.heap.size w W) (fun i _ _ => m - (intOf i).toNat)
    case atStart => exact ⟨0, _, _, by omega, rfl, rfl, o2, rfl, hl0, b2⟩
    case round =>
      clear o2 b2 hb1 hl0
      obtain ⟨j, v, out, hj, rfl, rfl, O, HO, hol, hb⟩ := hrel
      by_cases hlt : j < m
      · obtain ⟨b, off, rfl, hc⟩ := hcell (by omega)
        obtain ⟨c0, c1⟩ := hc j hlt
        have hlt' : j < p.length := by rw [HL.out]; exact hlt
        have HS : Hid _ := wfUp_succ (l := l) hlt'
        have hl1 := wfUp_len l p (j + 1)
        rw [HLn.out] at hl1
        obtain ⟨N, hN⟩ : ∃ N, out.length = N := ⟨_, rfl⟩
        obtain ⟨ao, cap, rfl, hps, hcp⟩ := own_slice6 O hN
        have hNb : N ≤ 20000 := by omega
        have HNl : Hid (out.length = N) := hN
        have k0 : ∀ W, Below wr.heap.size wr W → W.cell? ⟨b, off + j * 2, none⟩ = _ := fun W hW => ((Below.chain hb hW).cell (p := ⟨b, off + j * 2, none⟩) (World.block_lt_of_cell? _ _ c0)).trans c0
        have k1 : ∀ W, Below wr.heap.size wr W → W.cell? ⟨b, off + j * 2 + 1, none⟩ = _ := fun W hW => ((Below.chain hb hW).cell (p := ⟨b, off + j * 2 + 1, none⟩) (World.block_lt_of_cell? _ _ c1)).trans c1
        clear hc c0 c1 hlt' hN O hol
        generalize p.getD j ([], []) = q at *
        obtain ⟨q1, q2⟩ := q
        dsimp only at *
        obtain ⟨W1, hW1⟩ : ∃ W, W = wr := ⟨_, rfl⟩
        rw [← hW1] at hps hb k0 k1 ⊢
        clear hW1
        go_wp2_with fail
        go_loopw [9, 8] (fun i u W => ∃ (k : Nat) (v : Value) (nx : List Pr), k ≤ N ∧ i = .int .i64 k ∧ v = u ∧ Own W W1.heap.size v nx ∧ Hid (nx = othUp out q1 k) ∧ nx.length ≤ k ∧ Below W1.heap.size W1 W) (fun i _ _ => N - (intOf i).toNat)
        case atStart => exact ⟨0, _, [], by omega, rfl, rfl, Own.none _ _, rfl, by simp, Below.refl _ _⟩
        case round =>
          obtain ⟨k, v, nx, hk, rfl, rfl, O, HX, hnl, hbW⟩ := hrel
          by_cases hkl : k < N
          · have hps2 := hps.later hbW
            obtain ⟨b2, o2, rfl, h2⟩ := hps2.2 (by omega)
            obtain ⟨e0, e1⟩ := h2 k hkl
            have f0 := k0 wr hbW
            have hlt2 : k < out.length := by rw [HNl.out]; exact hkl
            have HF : Hid _ := filter_take (f := fun x : Pr => !decide (x.1 = q1)) hlt2
            clear h2 hps2 hlt2
            generalize out.getD k ([], []) = x at *
            obtain ⟨x1, x2⟩ := x
            dsimp only at *
            by_cases he : x1 = q1
            · have he' : (x1 != q1) = false := by rw [bne_eq_false_iff_eq]; exact he
              have he2 : (x1 == q1) = true := by simpa using he
              have HR : Hid (nx = othUp out q1 (k + 1)) := by
                show _ = _
                unfold othUp
                rw [HF.out, HX.out, he]
                simp [othUp]
              clear HF HX he
              go_wp2_with fail
              go_quiet (fail)
              have O' := O.later (below_drewN (Below.refl wr.heap.size wr) nq)
              have hb' := below_drewN hbW nq
              go_wp2_with fail
              go_roundw
              case rel => exact ⟨k + 1, v, nx, by omega, by go_num, rfl, O', HR, by omega, hb'⟩
              case measure => simp [intOf]; omega
            · have he' : (x1 != q1) = true := by rw [bne_iff_ne]; exact he
              have he2 : (x1 == q1) = false := by simpa using he
              have HR : Hid (nx ++ [(x1, x2)] = othUp out q1 (k + 1)) := by
                show _ = _
                unfold othUp
                rw [HF.out, HX.out]
                simp [he, othUp]
              clear HF HX he
              go_wp2_with fail
              go_quiet (fail)
              have O' := O.later (below_drewN (Below.refl wr.heap.size wr) nq)
              have hb' := below_drewN hbW nq
              have e0' : (wr.drewN nq).cell? ⟨b2, o2 + k * 2, none⟩ = _ := e0
              have e1' : (wr.drewN nq).cell? ⟨b2, o2 + k * 2 + 1, none⟩ = _ := e1
              clear e0 e1 f0
              generalize wr.drewN nq = wz at *
              have hO2 := O'.later (bal (Below.refl _ _) (.cells #[tx x1, tx x2] 44))
              have hP2 := Ps.new wz (x1, x2)
              have hB2 := bal hb' (.cells #[tx x1, tx x2] 44)
              go_wp2_with (at_builtin; go_must (refine wp_app rfl _ _ rfl W1.heap.size v nx [(x1, x2)] _ 1 1 rfl rfl hO2 hP2 hB2 (Nat.le_refl _) (by omega) ?_; intro v3 w3 o3 b3))
              go_roundw
              case rel => exact ⟨k + 1, v3, _, by omega, by go_num, rfl, o3, HR, by simp; omega, b3⟩
              case measure => simp [intOf]; omega
          · have f1 := k1 wr hbW
            have f0 := k0 wr hbW
            have HB := Below.chain hb hbW
            have HXX : Hid (nx = (wfUp l p j).filter fun x => !decide (x.1 = q1)) := by
              show _ = _
              rw [HX.out, ← HO.out]
              unfold othUp
              rw [List.take_of_length_le (by rw [HNl.out]; omega)]
            clear HX
            by_cases hq : q2 = []
            · have hq' : (q2 == []) = true := by simpa using hq
              have HR : Hid (nx = wfUp l p (j + 1)) := by
                show _ = _
                rw [HS.out, HXX.out]
                unfold st
                simp [hq]
              have hlx : nx.length ≤ n + (j + 1) := by rw [HR.out]; exact hl1
              have O4 := O.base hb.size
              clear HXX hq HS hl1
              go_wp2_with fail
              go_roundw
              case rel => exact ⟨j + 1, v, nx, by omega, by go_num, rfl, O4, HR, hlx, HB⟩
              case measure => simp [intOf]; omega
            · have hq' : (q2 == []) = false := by simpa using hq
              have HR : Hid (nx ++ [(q1, q2)] = wfUp l p (j + 1)) := by
                show _ = _
                rw [HS.out, HXX.out]
                unfold st
                simp [hq]
              have hlx : (nx ++ [(q1, q2)]).length ≤ n + (j + 1) := by rw [HR.out]; exact hl1
              have O4 := O.base hb.size
              clear HXX hq HS hl1
              have hO2 := O4.later (bal (Below.refl _ _) (.cells #[tx q1, tx q2] 44))
              have hP2 := Ps.new wr (q1, q2)
              have hB2 := bal HB (.cells #[tx q1, tx q2] 44)
              go_wp2_with (at_builtin; go_must (refine wp_app rfl _ _ rfl w.heap.size v nx [(q1, q2)] _ 1 1 rfl rfl hO2 hP2 hB2 (Nat.le_refl _) (by omega) ?_; intro v3 w3 o3 b3))
              go_roundw
              case rel => exact ⟨j + 1, v3, _, by omega, by go_num, rfl, o3, HR, hlx, b3⟩
              case measure => simp [intOf]; omega
      · have HR : Hid (out = wf l p) := by show _ = _; rw [HO.out]; unfold wfUp; rw [List.take_of_length_le (by rw [HL.out]; omega)]
        obtain ⟨N, hN⟩ : ∃ N, out.length = N := ⟨_, rfl⟩
        obtain ⟨ao, cap, rfl, hps, hcp⟩ := own_slice6 O hN
        have hNb : N ≤ 20000 := by omega
        clear HO O
        go_wp2_with fail
        refine (refSorted_any ao N cap out wr (by omega) hps).mono ?_
        rintro e w4 ⟨v1, mm, rfl, o1, hpm, hsm, b1⟩
        have hml0 := hpm.length_eq
        rw [hN] at hml0
        rw [HR.out] at hpm
        obtain ⟨e1, e2⟩ := wf_with HIL.out hpm hsm
        have E1 : Hid _ := e1
        have E2 : Hid _ := e2
        have hfm : Fit mm := fun x hx => by
          rcases List.mem_append.1 (wf_sub x ((hpm.mem_iff).1 hx)) with h | h
          · exact hf x h
          · exact hfp x h
        obtain ⟨ao1, cap1, rfl, hps1, hc1⟩ := own_slice6 o1 hml0
        have B1 := Below.chain hb b1
        have o1' := o1.base hb.size
        have his2 := refIs_any ao1 N cap1 mm w4 (by omega) hfm hps1
        clear e1 e2 hpm hsm hps o1 b1 hb hN hml0
        go_wp2_with fail
        refine his2.mono ?_
        rintro e w5 ⟨rfl, hb5⟩
        have o5 := o1'.later hb5
        have B5 := Below.chain B1 hb5
        clear his2 o1' hb5 B1
        cases hI : fIs mm with
        | true =>
          rw [hI, if_pos rfl] at E1 E2
          go_wp2_with fail
          go_ret2
          exact ⟨_, by rw [E1.out]; rfl, by rw [E2.out]; exact o5, B5⟩
        | false =>
          rw [hI, if_neg (by simp)] at E1 E2
          go_wp2_with fail
          go_ret2
          exact ⟨_, by rw [E1.out]; rfl, by rw [E2.out]; exact Own.none _ _, B5⟩
end Go.Proofs.YtideieolgjhbiaaGreatDoor
