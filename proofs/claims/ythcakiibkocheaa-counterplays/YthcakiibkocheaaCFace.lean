/- What a counter tells, and the document's own example. -/
import Derived.Test.YthcakiibkocheaaCOf
import Derived.Test.YthcakiibkocheaaCRes
import Derived.Test.YthcakiibkocheaaCAdd
import Derived.Test.YthcakiibkocheaaMul
namespace Go.Proofs.Ythcakiibkocheaa
open Go.RowKit

/-- A counter as it is reached: in memory, and as the document has it. -/
structure St (w : World) (b : Nat) (l : List Smp) (k now : Int) : Prop where
  m : Rl w b l k now
  f : Wf l k now
theorem St.later {w w' : World} {b : Nat} {l : List Smp} {k now : Int} (h : St w b l k now) (hb : Below w.heap.size w w') : St w' b l k now := ⟨h.m.later hb, h.f⟩
theorem St.kept {w w' : World} {b : Nat} {l : List Smp} {k now : Int} (h : St w b l k now) {row : Option Nat} (hg : w.grownBy w' row) (hne : some b ≠ row) : St w' b l k now := ⟨h.m.kept hg hne, h.f⟩
theorem St.lt {w : World} {b : Nat} {l : List Smp} {k now : Int} (h : St w b l k now) : b < w.heap.size := h.m.lt
theorem new_st (n : Int) (w : World) : Calls Try.prog 9 #[.int .i64 n] w fun e w' => e = .returned (.pointer (some ⟨w.heap.size, 0, none⟩)) ∧ St w' w.heap.size [] (clamp n) 0 ∧ Below w.heap.size w w' :=
  (new_any n w).mono fun _ _ ⟨h1, h2, h3⟩ => ⟨h1, ⟨Rl.new h2, Wf.none (clamp_range n) ⟨by omega, by omega⟩⟩, h3⟩
theorem adv_st (b : Nat) (l : List Smp) (k now n : Int) (w : World) (h : St w b l k now) :
    Calls Try.prog 10 #[.pointer (some ⟨b, 0, none⟩), .int .i64 n] w fun e w' => e = .returned (.tuple #[]) ∧ St w' b (fg (onw now n - k) l) k (onw now n) ∧ w.grownBy w' (some b) :=
  (advance_any b l k now n w h.m h.f).mono fun _ _ ⟨h1, h2, h3⟩ => ⟨h1, ⟨h2, h.f.advance n⟩, h3⟩
theorem add_st (b : Nat) (l : List Smp) (k now : Int) (s : Smp) (w : World) (h : St w b l k now) (hr : R64 s.2.2) :
    Calls Try.prog 12 #[.pointer (some ⟨b, 0, none⟩), sv s] w fun e w' => e = .returned (.int .i64 (adE l k now s.1)) ∧ St w' b (adL l k now s) k now ∧ w.grownBy w' (some b) :=
  (add_any b l k now s w h.m h.f).mono fun _ _ ⟨h1, h2, h3⟩ => ⟨h1, ⟨h2, h.f.add s hr⟩, h3⟩
/-- What Increase tells of these. -/
def incT (l : List Smp) : Value := if l.length < 2 then .tuple #[.agg #[.bool false, .int .i64 0], .bool false] else .tuple #[.agg #[.bool (ov (incP l)), .int .i64 (nn (incP l))], .bool true]
theorem incT_eq (l : List Smp) : ∃ (o : Bool) (n : Int) (c : Bool), incT l = .tuple #[.agg #[.bool o, .int .i64 n], .bool c] ∧ c = decide (2 ≤ l.length) ∧ (2 ≤ l.length → o = ov (incP l) ∧ n = nn (incP l)) := by
  unfold incT
  by_cases h : l.length < 2
  · rw [if_pos h]; exact ⟨_, _, _, rfl, (decide_eq_false (by omega)).symm, fun e => absurd e (by omega)⟩
  · rw [if_neg h]; exact ⟨_, _, _, rfl, (decide_eq_true (by omega)).symm, fun _ => ⟨rfl, rfl⟩⟩
set_option maxHeartbeats 1000000 in
theorem inc_st (b : Nat) (l : List Smp) (k now : Int) (w : World) (h : St w b l k now) :
    Calls Try.prog 13 #[.pointer (some ⟨b, 0, none⟩)] w fun e w' => e = .returned (incT l) ∧ Below w.heap.size w w' := by
  have hb0 := bal (Below.refl _ w) (.cells #[.bool false, .int .i64 0] 28)
  have hx0 := Box.new w false 0
  have h1 := h.later hb0
  obtain ⟨o, n, c, he, hcc⟩ := incT_eq l
  clear hcc
  have hof := fun W (hs : Ms W (some ⟨b, 0, none⟩) l.length l) => of_row (some ⟨b, 0, none⟩) l.length 100 l W h.f.le hs h.f.rg
  have he' : (if l.length < 2 then Value.tuple #[.agg #[.bool false, .int .i64 0], .bool false] else .tuple #[.agg #[.bool (ov (incP l)), .int .i64 (nn (incP l))], .bool true]) = .tuple #[.agg #[.bool o, .int .i64 n], .bool c] := he
  rw [he'] at hof
  rw [he]
  clear he he' h
  go_enter Try.func13, Try.ntmps13
  go_wp2_with fail
  refine (there_any b l k now _ h1.m).mono ?_
  rintro e w1 ⟨rfl, hb1⟩
  have h2 := h1.later hb1
  have hms := h2.m.Ms
  generalize l.length = len at *
  go_wp2_with fail
  refine (hof _ hms).mono ?_
  rintro e w2 ⟨rfl, hb2⟩
  have hb3 := Below.chain hb1 hb2
  obtain ⟨c0, c1, g0, g1⟩ := id (hx0.later hb3)
  obtain ⟨p0, p1, _, _⟩ := (hx0.later hb3).put (p := o) (m := n)
  go_wp2
  exact bodyPost_ret (v := .tuple #[.agg #[.bool o, .int .i64 n], .bool c]) (by simp [results, Try.results13, go_sem, p0, p1]) rfl ⟨rfl, put2 (Below.chain hb0 hb3) (Nat.le_refl _) _ _⟩
theorem resets_st (b : Nat) (l : List Smp) (k now : Int) (w : World) (h : St w b l k now) :
    Calls Try.prog 18 #[.pointer (some ⟨b, 0, none⟩)] w fun e w' => e = .returned (.int .i64 (rsP l)) ∧ Below w.heap.size w w' := resets_any b l k now w h.m h.f.rg
/-- How fast it rose. -/
def rtP (l : List Smp) (k : Int) : Option Int := fDiv (incP l) (fOf k)
def rtT (l : List Smp) (k : Int) : Value := if l.length < 2 then .tuple #[.agg #[.bool false, .int .i64 0], .bool false] else .tuple #[.agg #[.bool (ov (rtP l k)), .int .i64 (nn (rtP l k))], .bool true]
theorem div_vals (a c : Option Int) (w : World) (ha : V a) (hc : V c) : Calls Try.prog 22 #[.agg #[.bool (ov a), .int .i64 (nn a)], .agg #[.bool (ov c), .int .i64 (nn c)]] w fun e w' => e = .returned (.agg #[.bool (ov (fDiv a c)), .int .i64 (nn (fDiv a c))]) ∧ Below w.heap.size w w' := by
  have h := quo_any (ov a) (ov c) (nn a) (nn c) w (V.r64 ha) (V.r64 hc)
  rw [cnt_val ha, cnt_val hc] at h
  exact h
theorem set_keepC (w : World) (a b j : Nat) (u v : Value) (h : b ≠ a) : ((w.setCell ⟨a, 0, none⟩ u).setCell ⟨a, 1, none⟩ v).cell? ⟨b, j, none⟩ = w.cell? ⟨b, j, none⟩ := by
  rw [set_other (fun e => h (by injection e with e; exact e.symm)), set_other (fun e => h (by injection e with e; exact e.symm))]
set_option maxHeartbeats 2000000 in
theorem rate_st (b : Nat) (l : List Smp) (k now : Int) (w : World) (h : St w b l k now) :
    Calls Try.prog 15 #[.pointer (some ⟨b, 0, none⟩)] w fun e w' => e = .returned (rtT l k) ∧ Below w.heap.size w w' := by
  have hb0 := bal (Below.refl _ w) (.cells #[.bool false, .int .i64 0] 28)
  have hx0 := Box.new w false 0
  have h1 := h.later hb0
  have hin := inc_st b l k now _ h1
  by_cases h2 : l.length < 2
  · unfold incT at hin
    rw [if_pos h2] at hin
    unfold rtT
    rw [if_pos h2]
    clear h h1 h2
    go_enter Try.func15, Try.ntmps15
    go_wp2_with fail
    refine hin.mono ?_
    rintro e w1 ⟨rfl, hb1⟩
    have hx1 := (hx0.later hb1).later (bal (Below.refl _ w1) (.cells #[.bool false, .int .i64 0] 28))
    have hb2 := bal (Below.chain hb0 hb1) (.cells #[.bool false, .int .i64 0] 28)
    obtain ⟨c0, c1, g0, g1⟩ := id hx1
    obtain ⟨p0, p1, _, _⟩ := hx1.put (p := false) (m := 0)
    go_wp2
    exact bodyPost_ret (v := .tuple #[.agg #[.bool false, .int .i64 0], .bool false]) (by simp [results, Try.results15, go_sem, p0, p1]) rfl ⟨rfl, by first | exact hb2 | exact put2 hb2 (Nat.le_refl _) _ _⟩
  · unfold incT at hin
    rw [if_neg h2] at hin
    unfold rtT
    rw [if_neg h2]
    have hk1 := h.f.k1
    have hbl := h.lt
    have hof := fun W => of_any k W (by unfold R64; omega)
    have hdv := fun W => div_vals (incP l) (fOf k) W (V.sum _) (V.norm _)
    have HQ : Hid (ov (rtP l k) = ov (fDiv (incP l) (fOf k)) ∧ nn (rtP l k) = nn (fDiv (incP l) (fOf k))) := ⟨rfl, rfl⟩
    generalize ov (fDiv (incP l) (fOf k)) = qo at *
    generalize nn (fDiv (incP l) (fOf k)) = qn at *
    generalize ov (incP l) = io at *
    generalize nn (incP l) = im at *
    generalize ov (fOf k) = fo at *
    generalize nn (fOf k) = fn at *
    generalize ov (rtP l k) = ro at *
    generalize nn (rtP l k) = rn at *
    clear h h2
    go_enter Try.func15, Try.ntmps15
    go_wp2_with fail
    refine hin.mono ?_
    rintro e w1 ⟨rfl, hb1⟩
    have hx2 := (hx0.later hb1).later (bal (Below.refl _ w1) (.cells #[.bool io, .int .i64 im] 28))
    have hy2 := Box.new w1 io im
    have hb2 := bal (Below.chain hb0 hb1) (.cells #[.bool io, .int .i64 im] 28)
    have h3 := (h1.later hb1).later (bal (Below.refl _ w1) (.cells #[.bool io, .int .i64 im] 28))
    have hne : w1.heap.size ≠ w.heap.size := by have := (hx0.later hb1).lt; omega
    have hbn : b ≠ w.heap.size := by omega
    go_wp2_with fail
    generalize w1.heap.size = B4 at *
    generalize w1.alloc (.cells #[.bool io, .int .i64 im] 28) = w2 at *
    have q0 := h3.m.width
    obtain ⟨q1, q2, _, _⟩ := id hy2
    have hS0 : (fun W : World => W.cell? ⟨b, 301, none⟩ = some (Value.int .i64 k) ∧ W.cell? ⟨B4, 0, none⟩ = some (Value.bool io) ∧ W.cell? ⟨B4, 1, none⟩ = some (Value.int .i64 im)) _ := ⟨q0, q1, q2⟩
    refine wp_region_noPanic ?_
    refine wp_region_held_drew (S := fun W : World => W.cell? ⟨b, 301, none⟩ = some (Value.int .i64 k) ∧ W.cell? ⟨B4, 0, none⟩ = some (Value.bool io) ∧ W.cell? ⟨B4, 1, none⟩ = some (Value.int .i64 im)) (by kernel_rfl) hS0 (fun _ => ?_)
    refine take_at 0 (some 14) (.agg #[.bool io, .int .i64 im]) rfl rfl (by kernel_rfl) (by kernel_rfl) (by kernel_rfl) (fun _ _ _ h => h) (by rfl) (fun W hSw => by obtain ⟨q0, q1, q2⟩ := hSw; go_simp) hS0 ?_
    simp only [Act.put, List.setIfInBounds_toArray, List.set_cons_zero, List.set_cons_succ]
    refine take_at 1 (some 15) (.pointer (some ⟨b, 0, none⟩)) rfl rfl (by kernel_rfl) (by kernel_rfl) (by kernel_rfl) (fun _ _ _ h => h) (by rfl) (fun W hSw => by obtain ⟨q0, q1, q2⟩ := hSw; go_simp) hS0 ?_
    simp only [Act.put, List.setIfInBounds_toArray, List.set_cons_zero, List.set_cons_succ]
    refine take_at 2 (some 16) (.pointer (some ⟨b, 0, none⟩)) rfl rfl (by kernel_rfl) (by kernel_rfl) (by kernel_rfl) (fun _ _ _ h => h) (by rfl) (fun W hSw => by obtain ⟨q0, q1, q2⟩ := hSw; go_simp) hS0 ?_
    simp only [Act.put, List.setIfInBounds_toArray, List.set_cons_zero, List.set_cons_succ]
    refine take_at 3 (some 17) (.pointer (some ⟨b, 301, none⟩)) rfl rfl (by kernel_rfl) (by kernel_rfl) (by kernel_rfl) (fun _ _ _ h => h) (by rfl) (fun W hSw => by obtain ⟨q0, q1, q2⟩ := hSw; go_simp) hS0 ?_
    simp only [Act.put, List.setIfInBounds_toArray, List.set_cons_zero, List.set_cons_succ]
    refine take_at 4 (some 18) (.int .i64 k) rfl rfl (by kernel_rfl) (by kernel_rfl) (by kernel_rfl) (fun _ _ _ h => h) (by rfl) (fun W hSw => by obtain ⟨q0, q1, q2⟩ := hSw; go_simp) hS0 ?_
    simp only [Act.put, List.setIfInBounds_toArray, List.set_cons_zero, List.set_cons_succ]
    refine wpAnyH_ready (rs := [5]) (by kernel_rfl) (by simp) ?_
    refine AllReadyH.cons rfl (fun K hK => ?_) AllReadyH.nil
    go_simp
    refine (hof _).mono ?_
    rintro e w3 ⟨rfl, hb3⟩
    have hb3' : Below w2.heap.size w2 w3 := Below.chain (Below.refl _ _).drew hb3
    have h4 := h3.later hb3'
    have hy3 := hy2.later hb3'
    have q0' := h4.m.width
    obtain ⟨q1', q2', _, _⟩ := id hy3
    have hS1 := (⟨q0', q1', q2'⟩ : (fun W : World => W.cell? ⟨b, 301, none⟩ = some (Value.int .i64 k) ∧ W.cell? ⟨B4, 0, none⟩ = some (Value.bool io) ∧ W.cell? ⟨B4, 1, none⟩ = some (Value.int .i64 im)) w3)
    refine hK.out _ _ hS1 (fun _ => ?_)
    clear hK K
    refine wpAnyH_ready (rs := [6]) (by kernel_rfl) (by simp) ?_
    refine AllReadyH.cons rfl (fun K hK => ?_) AllReadyH.nil
    go_simp
    refine (hdv _).mono ?_
    rintro e w4 ⟨rfl, hb4⟩
    have hb4' := Below.chain hb3' hb4
    have h5 := h3.later hb4'
    have hy4 := hy2.later hb4'
    have hx4 := hx2.later hb4'
    have q0'' := h5.m.width
    obtain ⟨q1'', q2'', _, _⟩ := id hy4
    have hb6 := Below.chain hb2 hb4'
    have hS2 := (⟨q0'', q1'', q2''⟩ : (fun W : World => W.cell? ⟨b, 301, none⟩ = some (Value.int .i64 k) ∧ W.cell? ⟨B4, 0, none⟩ = some (Value.bool io) ∧ W.cell? ⟨B4, 1, none⟩ = some (Value.int .i64 im)) w4)
    refine hK.out _ _ hS2 (fun _ => ?_)
    clear hK K
    obtain ⟨c0, c1, g0, g1⟩ := id hx4
    obtain ⟨p0, p1, _, _⟩ := hx4.put (p := qo) (m := qn)
    have hy5 := hy4.put_other (p := qo) (m := qn) (fun e => hne e.symm)
    obtain ⟨s1, s2, _, _⟩ := hy5
    have s0 := (set_keepC w4 w.heap.size b 301 (.bool qo) (.int .i64 qn) hbn).trans q0''
    refine wpAnyH_ready (rs := [7]) (by kernel_rfl) (by simp) ?_
    refine AllReadyH.cons rfl (fun K hK => ?_) AllReadyH.nil
    go_simp
    have hS3 := (⟨s0, s1, s2⟩ : (fun W : World => W.cell? ⟨b, 301, none⟩ = some (Value.int .i64 k) ∧ W.cell? ⟨B4, 0, none⟩ = some (Value.bool io) ∧ W.cell? ⟨B4, 1, none⟩ = some (Value.int .i64 im)) ((w4.setCell ⟨w.heap.size, 0, none⟩ (.bool qo)).setCell ⟨w.heap.size, 1, none⟩ (.int .i64 qn)))
    refine hK.out _ _ hS3 (fun _ => ?_)
    clear hK K
    refine wpAnyH_ready (rs := [8]) (by kernel_rfl) (by simp) ?_
    refine AllReadyH.cons rfl (fun K hK => ?_) AllReadyH.nil
    go_simp
    have hS4 := (⟨s0, s1, s2⟩ : (fun W : World => W.cell? ⟨b, 301, none⟩ = some (Value.int .i64 k) ∧ W.cell? ⟨B4, 0, none⟩ = some (Value.bool io) ∧ W.cell? ⟨B4, 1, none⟩ = some (Value.int .i64 im)) _)
    refine hK.out _ _ hS4 (fun _ => ?_)
    clear hK K
    refine wpAnyH_done (by kernel_rfl) ?_ _
    refine NoPanic.normal ?_
    go_wp2
    exact bodyPost_ret (v := .tuple #[.agg #[.bool qo, .int .i64 qn], .bool true]) (by simp [results, Try.results15, go_sem, p0, p1]) rfl ⟨by rw [HQ.out.1, HQ.out.2], put2 hb6 (Nat.le_refl _) _ _⟩
end Go.Proofs.Ythcakiibkocheaa
