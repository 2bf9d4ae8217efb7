/- A reading taken on: bad, refuse, note, take: each for every reading. -/
import Derived.Test.YtcbjhfnlhpallaaGreatDoorELineW
namespace Go.Proofs.YtcbjhfnlhpallaaGreatDoor
open Go.RowKit Go.Maps

/-! ### Operations of a region that draws its order -/
theorem step_append_at {ops : Array Oper} {o : Oper} {a : Act} {W : World} {K : Act → World → Prop} {Q : Exit → Act → World → Prop} {E : Prop} (s x : Operand) (d : Option Tmp) (t : TypeId)
    (ho : o.op = .call { callee := .builtin .append, args := #[s, x], argTypes := #[t, t] }) (hd : o.dst = d) (hw : Region.wanted o (yielded ops a.tmps) = true)
    (base : Nat) (e : TypeId) (i : TypeInfo) (z : Value) (size bytes : Nat) (ht : Tryz.prog.underlying t = some (.slice e)) (hi : Tryz.prog.info? e = some i) (hz : i.zero = some z)
    (hsize : i.size = size) (hby : i.bytes = bytes) (hzs : z.cells.size = size) (hsz : 0 < size)
    (v : Value) (n : Nat) (xs : List Value) (hs : a.eval s = v) (hown : W.ownsRow base e size v n xs)
    (ad : Addr) (m c : Nat) (news : List Value) (hx : a.eval x = .slice (some ad) m c) (hl : news.length = m * size) (hnews : ∀ j u, news[j]? = some u → W.cell? (ad.add j) = some u) (h1 : ∀ u ∈ news, u.oneCell' = true)
    (h63 : n + m ≤ maxLen) (hbytes : (n + m) * bytes ≤ 140737488355328) (hbase : base ≤ W.heap.size)
    (h : ∀ v' w', w'.ownsRow base e size v' (n + m) (xs ++ news) → W.grownBy w' v.ownBlock → (v'.ownBlock = v.ownBlock ∨ v'.ownBlock = some W.heap.size) → K (a.put d v') w') :
    if Region.wanted o (yielded ops a.tmps) = true then Oper.wp Tryz.prog o a W K Q else E := by
  subst hd
  rw [if_pos hw]
  obtain ⟨v', w', hr, h2, h3, _, h5⟩ := run_append_own_at (P := Tryz.prog) W base t o.type e i z size bytes ht hi hz hsize hby hzs hsz v n xs hown ad m c news hl hnews h1 h63 hbytes hbase
  unfold Oper.wp execOp
  simp only [ho, resolve, invoke, builtin, Sem.run_bind, Sem.run_pure, Result.andThen_ok, List.map_toArray, List.map_cons, List.map_nil, hs, hx, hr]
  exact h v' w' h2 h3 h5
theorem step_store {ops : Array Oper} {o : Oper} {a : Act} {W : World} {K : Act → World → Prop} {Q : Exit → Act → World → Prop} {E : Prop} (m x v : Operand) (hop : o.op = Op.mapUpdate 65 m x v) (hw : Region.wanted o (yielded ops a.tmps) = true)
    (b n : Nat) (k : Str → Int) (s : Str) (y : Int) (hm : a.eval m = .map (some b)) (hx : a.eval x = tx s) (hv : a.eval v = .int .i64 y) (hk : Km W b n k) (hn : n ≤ 1000000) (hs : s.length ≤ 1000000) (hy : (Lit.int .i64 y).wf = true)
    (h : ∀ w', Km w' b (n + 1) (upd k s y) → W.grownBy w' (some b) → K (a.put o.dst undef) w') :
    if Region.wanted o (yielded ops a.tmps) = true then Oper.wp Tryz.prog o a W K Q else E := by
  rw [if_pos hw]
  obtain ⟨D, h1, h2, h3⟩ := hk
  obtain ⟨w', hrun, r1, r2⟩ := h1.update law9 Tryz.underlying65 (by unfold maxLen; omega) (key_tx s hs) (plainElem_int Tryz.underlying3 hy)
  unfold Oper.wp
  simp [execOp, hop, hm, hx, hv, hrun, Result.andThen]
  exact h w' (Km.put h2 h3 r1) r2
theorem step_look {ops : Array Oper} {o : Oper} {a : Act} {W : World} {K : Act → World → Prop} {Q : Exit → Act → World → Prop} {E : Prop} (m x : Operand) (d : Option Tmp) (hop : o.op = Op.lookup 65 m x false) (hd : o.dst = d) (hw : Region.wanted o (yielded ops a.tmps) = true)
    (b n : Nat) (k : Str → Int) (s : Str) (hm : a.eval m = .map (some b)) (hx : a.eval x = tx s) (hk : Km W b n k) (hs : s.length ≤ 1000000)
    (h : K (a.put d (.int .i64 (k s))) W) :
    if Region.wanted o (yielded ops a.tmps) = true then Oper.wp Tryz.prog o a W K Q else E := by
  subst hd
  rw [if_pos hw]
  obtain ⟨D, h1, h2, h3⟩ := hk
  obtain ⟨c, hrun, hat, _⟩ := h1.lookup_int law9 Tryz.underlying65 Tryz.underlying3 (zero3 _) (key_tx s hs)
  have hc : c = k s := by
    have e := hat.symm.trans (h3 s)
    simpa only [DataW.lit.injEq, Lit.int.injEq, true_and] using e
  subst hc
  unfold Oper.wp
  simp [execOp, hop, hm, hx, hrun, Result.andThen]
  exact h

theorem own_shape {w : World} {base e size n : Nat} {v : Value} {xs : List Value} (h : w.ownsRow base e size v n xs) : ∃ ao cap, v = .slice ao n cap := by
  rcases h.2 with ⟨rfl, rfl⟩ | ⟨g, cap, cur, rfl, _⟩
  · exact ⟨none, 0, rfl⟩
  · exact ⟨_, _, rfl⟩

/-! ### bad -/
theorem bad_any (x y : Int) (w : World) : Calls Tryz.prog 60 #[.agg #[.int .i64 x, .int .i64 y]] w fun e w' => e = .returned (.agg #[.int .i64 x, .int .i64 y]) ∧ Below w.heap.size w w' := by
  have hb0 : ∀ o o', Below w.heap.size w ((w.alloc o).alloc o') := fun o o' => bal (bal (Below.refl _ _) o) o'
  go_enter Tryz.func60, Tryz.ntmps60
  go_wp2_with fail
  exact bodyPost_ret (results_cell_row (p := 2) (ty := 43) Tryz.results60 _ _ (w.heap.size + 1) 43 _ _ _ rfl (heap_alloc2_new _ _ _) Tryz.underlying43 rfl (by kernel_rfl)) rfl ⟨rfl, hb0 _ _⟩

/-! ### refuse -/
theorem two_cells {w : World} {b : Nat} {u v : Value} (h0 : w.cell? ⟨b, 0, none⟩ = some u) (h1 : w.cell? ⟨b, 1, none⟩ = some v) : ∀ j x, [u, v][j]? = some x → w.cell? ((⟨b, 0, none⟩ : Addr).add j) = some x := by
  intro j x hx
  rw [Addr.add_lit, Nat.zero_add]
  match j, hx with
  | 0, hx => rw [h0]; exact hx
  | 1, hx => rw [h1]; exact hx
  | j + 2, hx => simp at hx
theorem six_cells {w : World} {b : Nat} {lab : Value} {x : Scr} (h : BoxX w b lab x) : ∀ j u, (six (lab, x))[j]? = some u → w.cell? ((⟨b, 0, none⟩ : Addr).add j) = some u := by
  intro j u hu
  rw [Addr.add_lit, Nat.zero_add]
  match j, hu with
  | 0, hu => rw [h.c0]; exact hu
  | 1, hu => rw [h.c1]; exact hu
  | 2, hu => rw [h.c2]; exact hu
  | 3, hu => rw [h.c3]; exact hu
  | 4, hu => rw [h.c4]; exact hu
  | 5, hu => rw [h.c5]; exact hu
  | j + 6, hu => simp [six] at hu
set_option maxRecDepth 20000 in
set_option maxHeartbeats 8000000 in
theorem refuse_any (G : Nat → Prop) (w : World) (rb mb n : Nat) (sv bv : Value) (l : List (Value × Scr)) (st : St) (c : Nat) (x y : Int) (h : Rd G w rb mb n sv bv l st c) (hG : ∀ b, G b → b < w.heap.size) (hc : c ≤ 1000000) :
    Calls Tryz.prog 25 #[.pointer (some ⟨rb, 0, none⟩), .agg #[.int .i64 x, .int .i64 y]] w fun e w' => e = .returned (.tuple #[]) ∧ ∃ bv', Rd G w' rb mb n sv bv' l ⟨st.k, st.out, st.bad ++ [(x, y)]⟩ (c + 1) ∧ Keep G w w' := by
  obtain ⟨i0, hi, hz0, hz1, hz2⟩ := info_parts43
  have hbad := bad_any x y
  have hb0 := bal (Below.refl _ w) (.cells #[.int .i64 x, .int .i64 y] 72)
  have z0 : (w.alloc (.cells #[.int .i64 x, .int .i64 y] 72)).cell? ⟨w.heap.size, 0, none⟩ = some (.int .i64 x) := by simp [go_sem]
  have z1 : (w.alloc (.cells #[.int .i64 x, .int .i64 y] 72)).cell? ⟨w.heap.size, 1, none⟩ = some (.int .i64 y) := by simp [go_sem]
  have h0 := h.later hb0
  have hfb : bv.ownBlock ≠ some w.heap.size ∧ rb ≠ w.heap.size := ⟨(h.fresh (Nat.le_refl _)).2.2.2, fun e => (h.fresh (Nat.le_refl _)).1 e.symm⟩
  go_enter Tryz.func25, Tryz.ntmps25
  go_wp2_with fail
  generalize w.alloc (.cells _ 72) = w0 at *
  have D0 : Below w0.heap.size w0 w0.drew := (Below.refl _ _).drew
  have hd := h0.later D0
  have BD := Below.chain hb0 D0
  have S0 : w0.drew.cell? ⟨w.heap.size, 0, none⟩ = some (.int .i64 x) ∧ w0.drew.cell? ⟨w.heap.size, 1, none⟩ = some (.int .i64 y) := ⟨z0, z1⟩
  clear z0 z1 h0 D0 hb0
  refine wp_region_noPanic ?_
  refine wp_region_held_drew (S := fun W => W.cell? ⟨w.heap.size, 0, none⟩ = some (.int .i64 x) ∧ W.cell? ⟨w.heap.size, 1, none⟩ = some (.int .i64 y)) (by kernel_rfl) ?_ (fun _ => ?_)
  · exact S0
  generalize w0.drew = wd at *
  refine take_at 0 (some 4) (.pointer (some ⟨rb, 0, none⟩)) rfl rfl (by kernel_rfl) (by kernel_rfl) (by kernel_rfl) (fun _ _ _ h => h) (by rfl) (fun W hSw => by go_simp) S0 ?_
  simp only [Act.put, List.setIfInBounds_toArray, List.set_cons_zero, List.set_cons_succ]
  refine take_at 1 (some 5) (.pointer (some ⟨rb, 0, none⟩)) rfl rfl (by kernel_rfl) (by kernel_rfl) (by kernel_rfl) (fun _ _ _ h => h) (by rfl) (fun W hSw => by go_simp) S0 ?_
  simp only [Act.put, List.setIfInBounds_toArray, List.set_cons_zero, List.set_cons_succ]
  refine take_at 2 (some 6) (.pointer (some ⟨rb, 0, none⟩)) rfl rfl (by kernel_rfl) (by kernel_rfl) (by kernel_rfl) (fun _ _ _ h => h) (by rfl) (fun W hSw => by go_simp) S0 ?_
  simp only [Act.put, List.setIfInBounds_toArray, List.set_cons_zero, List.set_cons_succ]
  refine take_at 3 (some 7) (.pointer (some ⟨rb, 2, none⟩)) rfl rfl (by kernel_rfl) (by kernel_rfl) (by kernel_rfl) (fun _ _ _ h => h) (by rfl) (fun W hSw => by go_simp) S0 ?_
  simp only [Act.put, List.setIfInBounds_toArray, List.set_cons_zero, List.set_cons_succ]
  refine take_at 5 (some 9) (.agg #[.int .i64 x, .int .i64 y]) rfl rfl (by kernel_rfl) (by kernel_rfl) (by kernel_rfl) (fun _ _ _ h => h) (by rfl) (fun W hSw => by obtain ⟨s0, s1⟩ := hSw; go_simp) S0 ?_
  simp only [Act.put, List.setIfInBounds_toArray, List.set_cons_zero, List.set_cons_succ]
  refine wpAnyH_ready (rs := [4, 6]) (by kernel_rfl) (by simp) ?_
  refine AllReadyH.cons rfl (fun K hK => ?_) (AllReadyH.cons rfl (fun K hK => ?_) AllReadyH.nil)
  · have cc := hd.c2
    go_simp
    refine hK.out _ _ ?_ (fun _ => ?_)
    · exact S0
    clear hK K
    refine wpAnyH_ready (rs := [6]) (by kernel_rfl) (by simp) ?_
    refine AllReadyH.cons rfl (fun K hK => ?_) AllReadyH.nil
    go_simp
    refine (hbad _).mono ?_
    rintro e w2 ⟨rfl, hb2⟩
    have S2 : w2.cell? ⟨w.heap.size, 0, none⟩ = some (.int .i64 x) ∧ w2.cell? ⟨w.heap.size, 1, none⟩ = some (.int .i64 y) := ⟨cell_later' S0.1 hb2, cell_later' S0.2 hb2⟩
    have h2 := hd.later hb2
    have B2 := Below.chain BD hb2
    refine hK.out _ _ ?_ (fun _ => ?_)
    · exact S2
    clear hK K
    refine wpAnyH_ready (rs := [7]) (by kernel_rfl) (by simp) ?_
    refine AllReadyH.cons rfl (fun K hK => ?_) AllReadyH.nil
    go_simp
    have hz := bal (Below.refl _ w2) (.cells #[.int .i64 x, .int .i64 y] 43)
    have S3 := (⟨cell_later' S2.1 hz, cell_later' S2.2 hz⟩ : (w2.alloc (.cells #[.int .i64 x, .int .i64 y] 43)).cell? ⟨w.heap.size, 0, none⟩ = some (.int .i64 x) ∧ (w2.alloc (.cells #[.int .i64 x, .int .i64 y] 43)).cell? ⟨w.heap.size, 1, none⟩ = some (.int .i64 y))
    have h3 := h2.later hz
    have B3 := Below.chain B2 hz
    have n0 : (w2.alloc (.cells #[.int .i64 x, .int .i64 y] 43)).cell? ⟨w2.heap.size, 0, none⟩ = some (.int .i64 x) := by simp [go_sem]
    have n1 : (w2.alloc (.cells #[.int .i64 x, .int .i64 y] 43)).cell? ⟨w2.heap.size, 1, none⟩ = some (.int .i64 y) := by simp [go_sem]
    generalize w2.alloc (.cells #[.int .i64 x, .int .i64 y] 43) = w3 at *
    refine hK.out _ _ ?_ (fun _ => ?_)
    · exact S3
    clear hK K
    refine wpAnyH_ready (rs := [8]) (by kernel_rfl) (by simp) ?_
    refine AllReadyH.cons rfl (fun K hK => ?_) AllReadyH.nil
    refine step_append_at _ _ (some 12) 24 rfl rfl (by rfl) 0 43 i0 (.agg #[.int .i64 0, .int .i64 0]) 2 16 Tryz.underlying24 hi hz0 hz1 hz2 zero43 (by decide) bv _ _ rfl h3.ob ⟨w2.heap.size, 0, none⟩ 1 1 (two (x, y)) rfl rfl (two_cells n0 n1) (fun u hu => by simp [two] at hu; rcases hu with rfl | rfl <;> rfl) (by have := h3.bc; unfold maxLen; omega) (by have := h3.bc; omega) (Nat.zero_le _) ?_
    intro v4 w4 ho4 hg4 hl4
    obtain ⟨ao4, cap4, rfl⟩ := own_shape ho4
    have S4 : w4.cell? ⟨w.heap.size, 0, none⟩ = some (.int .i64 x) ∧ w4.cell? ⟨w.heap.size, 1, none⟩ = some (.int .i64 y) := ⟨grown_cell hg4 S3.1 (fun e => hfb.1 e.symm), grown_cell hg4 S3.2 (fun e => hfb.1 e.symm)⟩
    refine hK.out _ _ ?_ (fun _ => ?_)
    · exact S4
    clear hK K
    have hrow : some rb ≠ bv.ownBlock := fun e => (h3.gb rb e.symm).2.1 rfl
    have cc := grown_cell hg4 h3.c2 hrow
    have ff := grown_frozen hg4 h3.rlt h3.f2 hrow
    refine take_at 9 (some 13) (.pointer (some ⟨rb, 0, none⟩)) rfl rfl (by kernel_rfl) (by kernel_rfl) (by kernel_rfl) (fun _ _ _ h => h) (by rfl) (fun W hSw => by go_simp) S4 ?_
    simp only [Act.put, List.setIfInBounds_toArray, List.set_cons_zero, List.set_cons_succ]
    refine take_at 10 (some 14) (.pointer (some ⟨rb, 2, none⟩)) rfl rfl (by kernel_rfl) (by kernel_rfl) (by kernel_rfl) (fun _ _ _ h => h) (by rfl) (fun W hSw => by go_simp) S4 ?_
    simp only [Act.put, List.setIfInBounds_toArray, List.set_cons_zero, List.set_cons_succ]
    refine wpAnyH_ready (rs := [11]) (by kernel_rfl) (by simp) ?_
    refine AllReadyH.cons rfl (fun K hK => ?_) AllReadyH.nil
    go_simp
    have S5 : (w4.setCell ⟨rb, 2, none⟩ (.slice ao4 (st.bad.length + 1) cap4)).cell? ⟨w.heap.size, 0, none⟩ = some (.int .i64 x) ∧ (w4.setCell ⟨rb, 2, none⟩ (.slice ao4 (st.bad.length + 1) cap4)).cell? ⟨w.heap.size, 1, none⟩ = some (.int .i64 y) := ⟨grown_cell (grown_set w4 rb 2 _) S4.1 (fun e => hfb.2 (by injection e with e; exact e.symm)), grown_cell (grown_set w4 rb 2 _) S4.2 (fun e => hfb.2 (by injection e with e; exact e.symm))⟩
    refine hK.out _ _ ?_ (fun _ => ?_)
    · exact S5
    clear hK K
    refine wpAnyH_done (by kernel_rfl) ?_ _
    refine NoPanic.normal ?_
    go_wp2
    first | go_end0 | (refine bodyPost_ret (results_none rfl _ _ _) rfl ?_)
    obtain ⟨r1, r2⟩ := h3.refused (p := (x, y)) (fun b hb => Nat.lt_of_lt_of_le (hG b hb) B3.size) ho4 hg4 hl4
    exact ⟨rfl, _, r1, (Keep.of B3 hG).trans r2⟩
  · go_simp
    refine (hbad _).mono ?_
    rintro e w2 ⟨rfl, hb2⟩
    have S2 : w2.cell? ⟨w.heap.size, 0, none⟩ = some (.int .i64 x) ∧ w2.cell? ⟨w.heap.size, 1, none⟩ = some (.int .i64 y) := ⟨cell_later' S0.1 hb2, cell_later' S0.2 hb2⟩
    have h2 := hd.later hb2
    have B2 := Below.chain BD hb2
    refine hK.out _ _ ?_ (fun _ => ?_)
    · exact S2
    clear hK K
    refine wpAnyH_ready (rs := [4, 7]) (by kernel_rfl) (by simp) ?_
    refine AllReadyH.cons rfl (fun K hK => ?_) (AllReadyH.cons rfl (fun K hK => ?_) AllReadyH.nil)
    · have cc := h2.c2
      go_simp
      refine hK.out _ _ ?_ (fun _ => ?_)
      · exact S2
      clear hK K
      refine wpAnyH_ready (rs := [7]) (by kernel_rfl) (by simp) ?_
      refine AllReadyH.cons rfl (fun K hK => ?_) AllReadyH.nil
      go_simp
      have hz := bal (Below.refl _ w2) (.cells #[.int .i64 x, .int .i64 y] 43)
      have S3 := (⟨cell_later' S2.1 hz, cell_later' S2.2 hz⟩ : (w2.alloc (.cells #[.int .i64 x, .int .i64 y] 43)).cell? ⟨w.heap.size, 0, none⟩ = some (.int .i64 x) ∧ (w2.alloc (.cells #[.int .i64 x, .int .i64 y] 43)).cell? ⟨w.heap.size, 1, none⟩ = some (.int .i64 y))
      have h3 := h2.later hz
      have B3 := Below.chain B2 hz
      have n0 : (w2.alloc (.cells #[.int .i64 x, .int .i64 y] 43)).cell? ⟨w2.heap.size, 0, none⟩ = some (.int .i64 x) := by simp [go_sem]
      have n1 : (w2.alloc (.cells #[.int .i64 x, .int .i64 y] 43)).cell? ⟨w2.heap.size, 1, none⟩ = some (.int .i64 y) := by simp [go_sem]
      generalize w2.alloc (.cells #[.int .i64 x, .int .i64 y] 43) = w3 at *
      refine hK.out _ _ ?_ (fun _ => ?_)
      · exact S3
      clear hK K
      refine wpAnyH_ready (rs := [8]) (by kernel_rfl) (by simp) ?_
      refine AllReadyH.cons rfl (fun K hK => ?_) AllReadyH.nil
      refine step_append_at _ _ (some 12) 24 rfl rfl (by rfl) 0 43 i0 (.agg #[.int .i64 0, .int .i64 0]) 2 16 Tryz.underlying24 hi hz0 hz1 hz2 zero43 (by decide) bv _ _ rfl h3.ob ⟨w2.heap.size, 0, none⟩ 1 1 (two (x, y)) rfl rfl (two_cells n0 n1) (fun u hu => by simp [two] at hu; rcases hu with rfl | rfl <;> rfl) (by have := h3.bc; unfold maxLen; omega) (by have := h3.bc; omega) (Nat.zero_le _) ?_
      intro v4 w4 ho4 hg4 hl4
      obtain ⟨ao4, cap4, rfl⟩ := own_shape ho4
      have S4 : w4.cell? ⟨w.heap.size, 0, none⟩ = some (.int .i64 x) ∧ w4.cell? ⟨w.heap.size, 1, none⟩ = some (.int .i64 y) := ⟨grown_cell hg4 S3.1 (fun e => hfb.1 e.symm), grown_cell hg4 S3.2 (fun e => hfb.1 e.symm)⟩
      refine hK.out _ _ ?_ (fun _ => ?_)
      · exact S4
      clear hK K
      have hrow : some rb ≠ bv.ownBlock := fun e => (h3.gb rb e.symm).2.1 rfl
      have cc := grown_cell hg4 h3.c2 hrow
      have ff := grown_frozen hg4 h3.rlt h3.f2 hrow
      refine take_at 9 (some 13) (.pointer (some ⟨rb, 0, none⟩)) rfl rfl (by kernel_rfl) (by kernel_rfl) (by kernel_rfl) (fun _ _ _ h => h) (by rfl) (fun W hSw => by go_simp) S4 ?_
      simp only [Act.put, List.setIfInBounds_toArray, List.set_cons_zero, List.set_cons_succ]
      refine take_at 10 (some 14) (.pointer (some ⟨rb, 2, none⟩)) rfl rfl (by kernel_rfl) (by kernel_rfl) (by kernel_rfl) (fun _ _ _ h => h) (by rfl) (fun W hSw => by go_simp) S4 ?_
      simp only [Act.put, List.setIfInBounds_toArray, List.set_cons_zero, List.set_cons_succ]
      refine wpAnyH_ready (rs := [11]) (by kernel_rfl) (by simp) ?_
      refine AllReadyH.cons rfl (fun K hK => ?_) AllReadyH.nil
      go_simp
      have S5 : (w4.setCell ⟨rb, 2, none⟩ (.slice ao4 (st.bad.length + 1) cap4)).cell? ⟨w.heap.size, 0, none⟩ = some (.int .i64 x) ∧ (w4.setCell ⟨rb, 2, none⟩ (.slice ao4 (st.bad.length + 1) cap4)).cell? ⟨w.heap.size, 1, none⟩ = some (.int .i64 y) := ⟨grown_cell (grown_set w4 rb 2 _) S4.1 (fun e => hfb.2 (by injection e with e; exact e.symm)), grown_cell (grown_set w4 rb 2 _) S4.2 (fun e => hfb.2 (by injection e with e; exact e.symm))⟩
      refine hK.out _ _ ?_ (fun _ => ?_)
      · exact S5
      clear hK K
      refine wpAnyH_done (by kernel_rfl) ?_ _
      refine NoPanic.normal ?_
      go_wp2
      first | go_end0 | (refine bodyPost_ret (results_none rfl _ _ _) rfl ?_)
      obtain ⟨r1, r2⟩ := h3.refused (p := (x, y)) (fun b hb => Nat.lt_of_lt_of_le (hG b hb) B3.size) ho4 hg4 hl4
      exact ⟨rfl, _, r1, (Keep.of B3 hG).trans r2⟩
    · go_simp
      have hz := bal (Below.refl _ w2) (.cells #[.int .i64 x, .int .i64 y] 43)
      have S3 := (⟨cell_later' S2.1 hz, cell_later' S2.2 hz⟩ : (w2.alloc (.cells #[.int .i64 x, .int .i64 y] 43)).cell? ⟨w.heap.size, 0, none⟩ = some (.int .i64 x) ∧ (w2.alloc (.cells #[.int .i64 x, .int .i64 y] 43)).cell? ⟨w.heap.size, 1, none⟩ = some (.int .i64 y))
      have h3 := h2.later hz
      have B3 := Below.chain B2 hz
      have n0 : (w2.alloc (.cells #[.int .i64 x, .int .i64 y] 43)).cell? ⟨w2.heap.size, 0, none⟩ = some (.int .i64 x) := by simp [go_sem]
      have n1 : (w2.alloc (.cells #[.int .i64 x, .int .i64 y] 43)).cell? ⟨w2.heap.size, 1, none⟩ = some (.int .i64 y) := by simp [go_sem]
      generalize w2.alloc (.cells #[.int .i64 x, .int .i64 y] 43) = w3 at *
      refine hK.out _ _ ?_ (fun _ => ?_)
      · exact S3
      clear hK K
      refine wpAnyH_ready (rs := [4]) (by kernel_rfl) (by simp) ?_
      refine AllReadyH.cons rfl (fun K hK => ?_) AllReadyH.nil
      have cc := h3.c2
      go_simp
      refine hK.out _ _ ?_ (fun _ => ?_)
      · exact S3
      clear hK K
      refine wpAnyH_ready (rs := [8]) (by kernel_rfl) (by simp) ?_
      refine AllReadyH.cons rfl (fun K hK => ?_) AllReadyH.nil
      refine step_append_at _ _ (some 12) 24 rfl rfl (by rfl) 0 43 i0 (.agg #[.int .i64 0, .int .i64 0]) 2 16 Tryz.underlying24 hi hz0 hz1 hz2 zero43 (by decide) bv _ _ rfl h3.ob ⟨w2.heap.size, 0, none⟩ 1 1 (two (x, y)) rfl rfl (two_cells n0 n1) (fun u hu => by simp [two] at hu; rcases hu with rfl | rfl <;> rfl) (by have := h3.bc; unfold maxLen; omega) (by have := h3.bc; omega) (Nat.zero_le _) ?_
      intro v4 w4 ho4 hg4 hl4
      obtain ⟨ao4, cap4, rfl⟩ := own_shape ho4
      have S4 : w4.cell? ⟨w.heap.size, 0, none⟩ = some (.int .i64 x) ∧ w4.cell? ⟨w.heap.size, 1, none⟩ = some (.int .i64 y) := ⟨grown_cell hg4 S3.1 (fun e => hfb.1 e.symm), grown_cell hg4 S3.2 (fun e => hfb.1 e.symm)⟩
      refine hK.out _ _ ?_ (fun _ => ?_)
      · exact S4
      clear hK K
      have hrow : some rb ≠ bv.ownBlock := fun e => (h3.gb rb e.symm).2.1 rfl
      have cc := grown_cell hg4 h3.c2 hrow
      have ff := grown_frozen hg4 h3.rlt h3.f2 hrow
      refine take_at 9 (some 13) (.pointer (some ⟨rb, 0, none⟩)) rfl rfl (by kernel_rfl) (by kernel_rfl) (by kernel_rfl) (fun _ _ _ h => h) (by rfl) (fun W hSw => by go_simp) S4 ?_
      simp only [Act.put, List.setIfInBounds_toArray, List.set_cons_zero, List.set_cons_succ]
      refine take_at 10 (some 14) (.pointer (some ⟨rb, 2, none⟩)) rfl rfl (by kernel_rfl) (by kernel_rfl) (by kernel_rfl) (fun _ _ _ h => h) (by rfl) (fun W hSw => by go_simp) S4 ?_
      simp only [Act.put, List.setIfInBounds_toArray, List.set_cons_zero, List.set_cons_succ]
      refine wpAnyH_ready (rs := [11]) (by kernel_rfl) (by simp) ?_
      refine AllReadyH.cons rfl (fun K hK => ?_) AllReadyH.nil
      go_simp
      have S5 : (w4.setCell ⟨rb, 2, none⟩ (.slice ao4 (st.bad.length + 1) cap4)).cell? ⟨w.heap.size, 0, none⟩ = some (.int .i64 x) ∧ (w4.setCell ⟨rb, 2, none⟩ (.slice ao4 (st.bad.length + 1) cap4)).cell? ⟨w.heap.size, 1, none⟩ = some (.int .i64 y) := ⟨grown_cell (grown_set w4 rb 2 _) S4.1 (fun e => hfb.2 (by injection e with e; exact e.symm)), grown_cell (grown_set w4 rb 2 _) S4.2 (fun e => hfb.2 (by injection e with e; exact e.symm))⟩
      refine hK.out _ _ ?_ (fun _ => ?_)
      · exact S5
      clear hK K
      refine wpAnyH_done (by kernel_rfl) ?_ _
      refine NoPanic.normal ?_
      go_wp2
      first | go_end0 | (refine bodyPost_ret (results_none rfl _ _ _) rfl ?_)
      obtain ⟨r1, r2⟩ := h3.refused (p := (x, y)) (fun b hb => Nat.lt_of_lt_of_le (hG b hb) B3.size) ho4 hg4 hl4
      exact ⟨rfl, _, r1, (Keep.of B3 hG).trans r2⟩

/-! ### note -/
theorem note4_len {l : List Str} (h : l.length ≠ 4) : note4 l = none := by
  match l, h with
  | [], _ => rfl
  | [_], _ => rfl
  | [_, _], _ => rfl
  | [_, _, _], _ => rfl
  | [_, _, _, _], h => exact absurd rfl h
  | _ :: _ :: _ :: _ :: _ :: _, _ => rfl
theorem note_len {s : Str} (h : (sp 32 s).length ≠ 4) : fNote s = none := note4_len h
theorem four_of {l : List Str} (h : l.length = 4) : ∃ a b c d, l = [a, b, c, d] := by
  match l, h with
  | [a, b, c, d], _ => exact ⟨a, b, c, d, rfl⟩
theorem note_no {a b n k : Str} (h : ¬ (a = [35] ∧ b = tWord ∧ fName n = true)) : note4 [a, b, n, k] = none := by
  show (if a = [35] ∧ b = tWord ∧ fName n = true then (kOf k).map fun x => (n, x) else none) = none
  rw [if_neg h]
theorem note_yes {a b n k : Str} (h : a = [35] ∧ b = tWord ∧ fName n = true) : note4 [a, b, n, k] = (kOf k).map fun x => (n, x) := by
  show (if a = [35] ∧ b = tWord ∧ fName n = true then (kOf k).map fun x => (n, x) else none) = _
  rw [if_pos h]
theorem kOf_wf (s : Str) : (Lit.int .i64 ((kOf s).getD 0)).wf = true := by
  rcases kOf_cases s with h | h | h | h
  · rw [h.2]; rfl
  · rw [h.2.2]; rfl
  · rw [h.2.2.2]; rfl
  · rw [h.2.2.2]; rfl
set_option maxRecDepth 20000 in
set_option maxHeartbeats 8000000 in
theorem note_any (G : Nat → Prop) (w : World) (rb mb n : Nat) (sv bv : Value) (l : List (Value × Scr)) (st : St) (c : Nat) (s : Str) (h : Rd G w rb mb n sv bv l st c) (hG : ∀ b, G b → b < w.heap.size) (hc : c ≤ 1000000) (hs : s.length ≤ 1000000) (he : Ev w) :
    Calls Tryz.prog 62 #[.pointer (some ⟨rb, 0, none⟩), tx s] w fun e w' => e = .returned (.tuple #[]) ∧ ∃ n', Rd G w' rb mb n' sv bv l (noted st (fNote s)) (c + 1) ∧ Keep G w w' := by
  have hsp := splitS_any 32 s w hs he.mx
  by_cases h4 : (sp 32 s).length = 4
  · have HN : Hid (fNote s = note4 (sp 32 s)) := rfl
    have hsub : ∀ a ∈ sp 32 s, a.length ≤ s.length := fun a ha => sp_sub ha
    generalize fNote s = F at *
    generalize sp 32 s = L at *
    obtain ⟨a, b, m, k, rfl⟩ := four_of h4
    have hm := hsub m (by simp)
    clear h4 hsub
    have hnm := fun W => name_any m W (by omega)
    have hko := kindOf_any k
    have hwf := kOf_wf k
    by_cases ha : a = [35]
    · subst ha
      by_cases hb : b = tWord
      · have hb' : (b == tWord) = true := beq_iff_eq.2 hb
        have hbl : b = [84, 89, 80, 69] := hb
        cases hf : fName m with
        | false =>
          have HF : Hid (F = none) := by show _ = _; rw [HN.out, note_no (by simp [hf])]
          rw [hf] at hnm
          subst hbl
          clear HN hb hb' hf
          go_enter Tryz.func62, Tryz.ntmps62
          go_wp2_with fail
          refine hsp.mono ?_
          rintro e w1 ⟨rfl, hss, hb1⟩
          obtain ⟨_, hss⟩ := hss
          obtain ⟨bk, off, hbo, hcs⟩ := hss (by simp)
          obtain ⟨rfl, rfl⟩ : w.heap.size = bk ∧ 0 = off := by injection hbo with hbo; injection hbo with e1 e2 _; exact ⟨e1, e2⟩
          have k0 : w1.cell? ⟨w.heap.size, 0, none⟩ = some (tx [35]) := by have := hcs 0 (by simp); simpa using this
          have k1 : w1.cell? ⟨w.heap.size, 1, none⟩ = some (tx [84, 89, 80, 69]) := by have := hcs 1 (by simp); simpa using this
          have k2 : w1.cell? ⟨w.heap.size, 2, none⟩ = some (tx m) := by have := hcs 2 (by simp); simpa using this
          have k3 : w1.cell? ⟨w.heap.size, 3, none⟩ = some (tx k) := by have := hcs 3 (by simp); simpa using this
          clear hcs hss hbo
          go_wp2_with fail
          refine (hnm _).mono ?_
          rintro e w2 ⟨rfl, rfl⟩
          go_wp2
          first | go_end0 | (refine bodyPost_ret (results_none rfl _ _ _) rfl ?_)
          exact ⟨rfl, n, by rw [HF.out]; exact (h.later hb1).mono (Nat.le_succ _), Keep.of hb1 hG⟩
        | true =>
          have HN2 : Hid (F = (kOf k).map fun x => (m, x)) := by show _ = _; rw [HN.out, note_yes ⟨rfl, hb, hf⟩]
          rw [hf] at hnm
          subst hbl
          clear HN hb hb' hf
          cases hk : kOf k with
          | none =>
            have HF : Hid (F = none) := by show _ = _; rw [HN2.out, hk]; rfl
            rw [hk] at hko
            clear HN2 hk hwf
            go_enter Tryz.func62, Tryz.ntmps62
            go_wp2_with fail
            refine hsp.mono ?_
            rintro e w1 ⟨rfl, hss, hb1⟩
            obtain ⟨_, hss⟩ := hss
            obtain ⟨bk, off, hbo, hcs⟩ := hss (by simp)
            obtain ⟨rfl, rfl⟩ : w.heap.size = bk ∧ 0 = off := by injection hbo with hbo; injection hbo with e1 e2 _; exact ⟨e1, e2⟩
            have k0 : w1.cell? ⟨w.heap.size, 0, none⟩ = some (tx [35]) := by have := hcs 0 (by simp); simpa using this
            have k1 : w1.cell? ⟨w.heap.size, 1, none⟩ = some (tx [84, 89, 80, 69]) := by have := hcs 1 (by simp); simpa using this
            have k2 : w1.cell? ⟨w.heap.size, 2, none⟩ = some (tx m) := by have := hcs 2 (by simp); simpa using this
            have k3 : w1.cell? ⟨w.heap.size, 3, none⟩ = some (tx k) := by have := hcs 3 (by simp); simpa using this
            clear hcs hss hbo
            go_wp2_with fail
            refine (hnm _).mono ?_
            rintro e w2 ⟨rfl, rfl⟩
            go_wp2_with fail
            refine (hko _).mono ?_
            rintro e w3 ⟨rfl, rfl⟩
            go_wp2
            first | go_end0 | (refine bodyPost_ret (results_none rfl _ _ _) rfl ?_)
            exact ⟨rfl, n, by rw [HF.out]; exact (h.later hb1).mono (Nat.le_succ _), Keep.of hb1 hG⟩
          | some kd =>
            have HF : Hid (F = some (m, kd)) := by show _ = _; rw [HN2.out, hk]; rfl
            rw [hk] at hko hwf
            simp only [Option.getD_some, Option.isSome_some] at hko hwf
            clear HN2 hk
            go_enter Tryz.func62, Tryz.ntmps62
            go_wp2_with fail
            refine hsp.mono ?_
            rintro e w1 ⟨rfl, hss, hb1⟩
            obtain ⟨_, hss⟩ := hss
            obtain ⟨bk, off, hbo, hcs⟩ := hss (by simp)
            obtain ⟨rfl, rfl⟩ : w.heap.size = bk ∧ 0 = off := by injection hbo with hbo; injection hbo with e1 e2 _; exact ⟨e1, e2⟩
            have k0 : w1.cell? ⟨w.heap.size, 0, none⟩ = some (tx [35]) := by have := hcs 0 (by simp); simpa using this
            have k1 : w1.cell? ⟨w.heap.size, 1, none⟩ = some (tx [84, 89, 80, 69]) := by have := hcs 1 (by simp); simpa using this
            have k2 : w1.cell? ⟨w.heap.size, 2, none⟩ = some (tx m) := by have := hcs 2 (by simp); simpa using this
            have k3 : w1.cell? ⟨w.heap.size, 3, none⟩ = some (tx k) := by have := hcs 3 (by simp); simpa using this
            clear hcs hss hbo
            go_wp2_with fail
            refine (hnm _).mono ?_
            rintro e w2 ⟨rfl, rfl⟩
            go_wp2_with fail
            refine (hko _).mono ?_
            rintro e w3 ⟨rfl, rfl⟩
            go_wp2_with fail
            have h1 := h.later hb1
            have D0 : Below w1.heap.size w1 w1.drew := (Below.refl _ _).drew
            have hd := h1.later D0
            have BD := Below.chain hb1 D0
            have S0 : Below w1.heap.size w1 w1.drew := D0
            have cc := h1.c0
            refine wp_region_noPanic ?_
            refine wp_region_held_drew (S := fun W => W.cell? ⟨rb, 0, none⟩ = some (.map (some mb)) ∧ W.cell? ⟨w.heap.size, 2, none⟩ = some (tx m)) (by kernel_rfl) ?_ (fun _ => ?_)
            · exact ⟨cell_later' cc D0, cell_later' k2 D0⟩
            have S1 : w1.drew.cell? ⟨rb, 0, none⟩ = some (.map (some mb)) ∧ w1.drew.cell? ⟨w.heap.size, 2, none⟩ = some (tx m) := ⟨cell_later' cc D0, cell_later' k2 D0⟩
            clear S0
            generalize w1.drew = wd at *
            refine take_at 0 (some 39) (.pointer (some ⟨rb, 0, none⟩)) rfl rfl (by kernel_rfl) (by kernel_rfl) (by kernel_rfl) (fun _ _ _ h => h) (by rfl) (fun W hSw => by go_simp) S1 ?_
            simp only [Act.put, List.setIfInBounds_toArray, List.set_cons_zero, List.set_cons_succ]
            refine take_at 1 (some 40) (.pointer (some ⟨rb, 0, none⟩)) rfl rfl (by kernel_rfl) (by kernel_rfl) (by kernel_rfl) (fun _ _ _ h => h) (by rfl) (fun W hSw => by go_simp) S1 ?_
            simp only [Act.put, List.setIfInBounds_toArray, List.set_cons_zero, List.set_cons_succ]
            refine take_at 2 (some 41) (.pointer (some ⟨rb, 0, none⟩)) rfl rfl (by kernel_rfl) (by kernel_rfl) (by kernel_rfl) (fun _ _ _ h => h) (by rfl) (fun W hSw => by go_simp) S1 ?_
            simp only [Act.put, List.setIfInBounds_toArray, List.set_cons_zero, List.set_cons_succ]
            refine take_at 3 (some 42) (.map (some mb)) rfl rfl (by kernel_rfl) (by kernel_rfl) (by kernel_rfl) (fun _ _ _ h => h) (by rfl) (fun W hSw => by obtain ⟨s0, s1⟩ := hSw; go_simp) S1 ?_
            simp only [Act.put, List.setIfInBounds_toArray, List.set_cons_zero, List.set_cons_succ]
            refine take_at 4 (some 43) (.slice (some ⟨w.heap.size, 0, none⟩) 4 4) rfl rfl (by kernel_rfl) (by kernel_rfl) (by kernel_rfl) (fun _ _ _ h => h) (by rfl) (fun W hSw => by go_simp) S1 ?_
            simp only [Act.put, List.setIfInBounds_toArray, List.set_cons_zero, List.set_cons_succ]
            refine take_at 5 (some 44) (.pointer (some ⟨w.heap.size, 2, none⟩)) rfl rfl (by kernel_rfl) (by kernel_rfl) (by kernel_rfl) (fun _ _ _ h => h) (by rfl) (fun W hSw => by go_simp) S1 ?_
            simp only [Act.put, List.setIfInBounds_toArray, List.set_cons_zero, List.set_cons_succ]
            refine take_at 6 (some 45) (tx m) rfl rfl (by kernel_rfl) (by kernel_rfl) (by kernel_rfl) (fun _ _ _ h => h) (by rfl) (fun W hSw => by obtain ⟨s0, s1⟩ := hSw; go_simp) S1 ?_
            simp only [Act.put, List.setIfInBounds_toArray, List.set_cons_zero, List.set_cons_succ]
            refine take_at 7 (some 46) (.int .i64 kd) rfl rfl (by kernel_rfl) (by kernel_rfl) (by kernel_rfl) (fun _ _ _ h => h) (by rfl) (fun W hSw => by go_simp) S1 ?_
            simp only [Act.put, List.setIfInBounds_toArray, List.set_cons_zero, List.set_cons_succ]
            refine wpAnyH_ready (rs := [8]) (by kernel_rfl) (by simp) ?_
            refine AllReadyH.cons rfl (fun K hK => ?_) AllReadyH.nil
            refine step_store _ _ _ rfl (by rfl) mb n st.k m kd rfl rfl rfl hd.km (by have := hd.nc; omega) (by omega) hwf ?_
            intro w4 hk4 hg4
            have S4 : w4.cell? ⟨rb, 0, none⟩ = some (.map (some mb)) ∧ w4.cell? ⟨w.heap.size, 2, none⟩ = some (tx m) := ⟨grown_cell hg4 S1.1 (fun e => hd.rm (by injection e)), grown_cell hg4 S1.2 (fun e => by injection e with e; have := h.km.lt; omega)⟩
            refine hK.out _ _ ?_ (fun _ => ?_)
            · exact S4
            clear hK K
            refine wpAnyH_done (by kernel_rfl) ?_ _
            refine NoPanic.normal ?_
            go_wp2
            first | go_end0 | (refine bodyPost_ret (results_none rfl _ _ _) rfl ?_)
            obtain ⟨r1, r2⟩ := hd.told (fun b hb => Nat.lt_of_lt_of_le (hG b hb) BD.size) hk4 hg4
            exact ⟨rfl, n + 1, by rw [HF.out]; exact r1, (Keep.of BD hG).trans r2⟩
      · have hb' : (b == [84, 89, 80, 69]) = false := beq_eq_false_iff_ne.2 hb
        have HF : Hid (F = none) := by show _ = _; rw [HN.out, note_no (by simp [hb])]
        clear HN hb
        go_enter Tryz.func62, Tryz.ntmps62
        go_wp2_with fail
        refine hsp.mono ?_
        rintro e w1 ⟨rfl, hss, hb1⟩
        obtain ⟨_, hss⟩ := hss
        obtain ⟨bk, off, hbo, hcs⟩ := hss (by simp)
        obtain ⟨rfl, rfl⟩ : w.heap.size = bk ∧ 0 = off := by injection hbo with hbo; injection hbo with e1 e2 _; exact ⟨e1, e2⟩
        have k0 : w1.cell? ⟨w.heap.size, 0, none⟩ = some (tx [35]) := by have := hcs 0 (by simp); simpa using this
        have k1 : w1.cell? ⟨w.heap.size, 1, none⟩ = some (tx b) := by have := hcs 1 (by simp); simpa using this
        have k2 : w1.cell? ⟨w.heap.size, 2, none⟩ = some (tx m) := by have := hcs 2 (by simp); simpa using this
        have k3 : w1.cell? ⟨w.heap.size, 3, none⟩ = some (tx k) := by have := hcs 3 (by simp); simpa using this
        clear hcs hss hbo
        go_wp2
        first | go_end0 | (refine bodyPost_ret (results_none rfl _ _ _) rfl ?_)
        exact ⟨rfl, n, by rw [HF.out]; exact (h.later hb1).mono (Nat.le_succ _), Keep.of hb1 hG⟩
    · have ha' : (a == [35]) = false := beq_eq_false_iff_ne.2 ha
      have HF : Hid (F = none) := by show _ = _; rw [HN.out, note_no (by simp [ha])]
      clear HN ha
      go_enter Tryz.func62, Tryz.ntmps62
      go_wp2_with fail
      refine hsp.mono ?_
      rintro e w1 ⟨rfl, hss, hb1⟩
      obtain ⟨_, hss⟩ := hss
      obtain ⟨bk, off, hbo, hcs⟩ := hss (by simp)
      obtain ⟨rfl, rfl⟩ : w.heap.size = bk ∧ 0 = off := by injection hbo with hbo; injection hbo with e1 e2 _; exact ⟨e1, e2⟩
      have k0 : w1.cell? ⟨w.heap.size, 0, none⟩ = some (tx a) := by have := hcs 0 (by simp); simpa using this
      have k1 : w1.cell? ⟨w.heap.size, 1, none⟩ = some (tx b) := by have := hcs 1 (by simp); simpa using this
      have k2 : w1.cell? ⟨w.heap.size, 2, none⟩ = some (tx m) := by have := hcs 2 (by simp); simpa using this
      have k3 : w1.cell? ⟨w.heap.size, 3, none⟩ = some (tx k) := by have := hcs 3 (by simp); simpa using this
      clear hcs hss hbo
      go_wp2
      first | go_end0 | (refine bodyPost_ret (results_none rfl _ _ _) rfl ?_)
      exact ⟨rfl, n, by rw [HF.out]; exact (h.later hb1).mono (Nat.le_succ _), Keep.of hb1 hG⟩
  · have HF : Hid (fNote s = none) := note_len h4
    have h4' : (((sp 32 s).length : Int) != 4) = true := by rw [bne_iff_ne]; omega
    generalize fNote s = F at *
    generalize sp 32 s = L at *
    clear h4
    go_enter Tryz.func62, Tryz.ntmps62
    go_wp2_with fail
    refine hsp.mono ?_
    rintro e w1 ⟨rfl, hss, hb1⟩
    go_wp2
    first | go_end0 | (refine bodyPost_ret (results_none rfl _ _ _) rfl ?_)
    exact ⟨rfl, n, by rw [HF.out]; exact (h.later hb1).mono (Nat.le_succ _), Keep.of hb1 hG⟩

end Go.Proofs.YtcbjhfnlhpallaaGreatDoor
