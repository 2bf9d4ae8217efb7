/- take: a line more of a reading; Parse: for every body. -/
import Derived.Test.YtcbjhfnlhpallaaGreatDoorETake
namespace Go.Proofs.YtcbjhfnlhpallaaGreatDoor
open Go.RowKit Go.Maps

theorem stepL_nil0 (st : St) (i : Nat) : stepL st i [] = st := by simp [stepL]
theorem step_bad {st : St} {i : Nat} {s : Str} (h0 : s ≠ []) (h1 : s.head? ≠ some 35) (h2 : lineE s ≠ 0) : stepL st i s = ⟨st.k, st.out, st.bad ++ [((i : Int), lineE s)]⟩ := by
  unfold stepL
  rw [if_neg h0, if_neg h1, if_neg h2]
theorem step_good {st : St} {i : Nat} {s : Str} (h0 : s ≠ []) (h1 : s.head? ≠ some 35) (h2 : lineE s = 0) : stepL st i s = ⟨st.k, st.out ++ [setK (lineS s) (st.k (mname (lineS s)))], st.bad⟩ := by
  unfold stepL
  rw [if_neg h0, if_neg h1, if_pos h2]
theorem step_note {st : St} {i : Nat} {s : Str} (h0 : s ≠ []) (h1 : s.head? = some 35) : stepL st i s = noted st (fNote s) := by
  unfold stepL
  rw [if_neg h0, if_pos h1]
theorem head_eq {s : Str} (h : 0 < s.length) : s.head? = some ((⟨s.toArray⟩ : ByteArray)[0]'(ba_lt h)) := by
  cases s with
  | nil => simp at h
  | cons c r => rfl
theorem lineS_fit (s : Str) : (lineS s).ls.length ≤ 1000000 ∧ (mname (lineS s)).length ≤ 1000000 := by
  have key : (lineS s).ls = [] ∨ ∃ a ∈ wd s, (lineS s).ls = parseL a := by
    unfold lineS
    split
    · unfold wS
      split
      · rename_i h; exact Or.inr ⟨_, by rw [h]; simp, rfl⟩
      · rename_i h; exact Or.inr ⟨_, by rw [h]; simp, rfl⟩
      · exact Or.inl rfl
    · exact Or.inl rfl
  have hl : (lineS s).ls.length ≤ 1000000 := by
    rcases key with h | ⟨a, _, h⟩
    · rw [h]; simp
    · rw [h]; exact parse_count a
  refine ⟨hl, ?_⟩
  unfold mname
  by_cases h0 : fGet (lineS s).ls nm = []
  · rw [h0]; simp
  · have hm := get_mem h0
    rcases key with h | ⟨a, ha, h⟩
    · rw [h] at hm; cases hm
    · rw [h] at hm ⊢
      unfold parseL at hm ⊢
      split at hm
      · rename_i hok
        rw [if_pos hok] at *
        unfold okParse at hok
        rw [Bool.and_eq_true, decide_eq_true_iff] at hok
        have := val_len (((is_iff _).1 (make_is hok.1)).2.1 _ hm).2
        simp only at this
        omega
      · cases hm
set_option maxRecDepth 20000 in
set_option maxHeartbeats 8000000 in
theorem take_any (G : Nat → Prop) (w : World) (rb mb n : Nat) (sv bv : Value) (l : List (Value × Scr)) (st : St) (c i : Nat) (s : Str) (h : Rd G w rb mb n sv bv l st c) (hG : ∀ b, G b → b < w.heap.size) (hc : c ≤ 100000) (hs : s.length ≤ 100000) (he : Ev w) :
    Calls Tryz.prog 27 #[.pointer (some ⟨rb, 0, none⟩), .agg #[.int .i64 i], tx s] w fun e w' => e = .returned (.tuple #[]) ∧ ∃ n' sv' bv' l', Rd G w' rb mb n' sv' bv' l' (stepL st i s) (c + 1) ∧ Keep G w w' := by
  have hb0 := bal (Below.refl _ w) (.cells #[.int .i64 i] 70)
  have z0 : (w.alloc (.cells #[.int .i64 i] 70)).cell? ⟨w.heap.size, 0, none⟩ = some (.int .i64 i) := by simp [go_sem]
  have h0 := h.later hb0
  have he0 := he.later hb0
  have hG0 : ∀ b, G b → b < (w.alloc (.cells #[.int .i64 i] 70)).heap.size := fun b hb => Nat.lt_of_lt_of_le (hG b hb) hb0.size
  have K0 := Keep.of hb0 hG
  by_cases hs0 : s = []
  · have hs' : (s == []) = true := beq_iff_eq.2 hs0
    have HS : Hid (stepL st i s = st) := by show _ = _; rw [hs0, stepL_nil0]
    generalize stepL st i s = st' at *
    clear hs0
    go_enter Tryz.func27, Tryz.ntmps27
    go_wp2
    first | go_end0 | (refine bodyPost_ret (results_none rfl _ _ _) rfl ?_)
    exact ⟨rfl, n, sv, bv, l, by rw [HS.out]; exact h0.mono (Nat.le_succ _), K0⟩
  · have hs' : (s == []) = false := beq_eq_false_iff_ne.2 hs0
    have hpos : 0 < s.length := by
      cases s with
      | nil => exact absurd rfl hs0
      | cons a b => simp
    have hbk := ba_lt hpos
    by_cases hq : (((⟨s.toArray⟩ : ByteArray)[0]'hbk).toNat : Int) = 35
    · have hq' : ((((⟨s.toArray⟩ : ByteArray)[0]'hbk).toNat : Int) == 35) = true := beq_iff_eq.2 hq
      have HS : Hid (stepL st i s = noted st (fNote s)) := step_note hs0 (by rw [head_eq hpos, byte_eq (k := 35) (by decide) hq]; rfl)
      have hno := note_any G _ rb mb n sv bv l st c s h0 hG0 (by omega) (by omega) he0
      generalize stepL st i s = st' at *
      generalize noted st (fNote s) = st2 at *
      clear hs0 hq
      go_enter Tryz.func27, Tryz.ntmps27
      go_wp2_with fail
      generalize w.alloc (.cells _ 70) = w0 at *
      refine hno.mono ?_
      rintro e w1 ⟨rfl, n', r1, r2⟩
      go_wp2
      first | go_end0 | (refine bodyPost_ret (results_none rfl _ _ _) rfl ?_)
      exact ⟨rfl, n', sv, bv, l, by rw [HS.out]; exact r1, K0.trans r2⟩
    · have hq' : ((((⟨s.toArray⟩ : ByteArray)[0]'hbk).toNat : Int) == 35) = false := beq_eq_false_iff_ne.2 hq
      have hq1 : s.head? ≠ some 35 := by rw [head_eq hpos]; intro e; injection e with e; rw [e] at hq; exact hq rfl
      have hli := line_any s (w.alloc (.cells #[.int .i64 i] 70)) hs he0
      obtain ⟨hf1, hf2⟩ := lineS_fit s
      by_cases hE : lineE s = 0
      · have HS : Hid (stepL st i s = ⟨st.k, st.out ++ [setK (lineS s) (st.k (mname (lineS s)))], st.bad⟩) := step_good hs0 hq1 hE
        rw [hE] at hli
        generalize stepL st i s = st' at *
        generalize lineS s = X at *
        clear hs0 hq hq1 hE
        go_enter Tryz.func27, Tryz.ntmps27
        go_wp2_with fail
        generalize w.alloc (.cells _ 70) = w0 at *
        refine hli.mono ?_
        rintro e w1 ⟨v1, rfl, ho1, hb1⟩
        obtain ⟨la, lc, rfl, hpl⟩ := ho1.fitN
        have B2 := bal hb1 (.cells #[.slice la X.ls.length lc, .bool X.ov, .int .i64 X.n, .int .i64 X.t, .bool X.has, .int .i64 X.kind] 34)
        have h2 := h0.later B2
        have hx2 := BoxX.new w1 (.slice la X.ls.length lc) X
        have hpl2 := hpl.later (bal (Below.refl _ w1) (.cells #[.slice la X.ls.length lc, .bool X.ov, .int .i64 X.n, .int .i64 X.t, .bool X.has, .int .i64 X.kind] 34))
        have hlw : ∀ b, (Value.slice la X.ls.length lc).ownBlock = some b → b < w1.heap.size ∧ w0.heap.size ≤ b := fun b e => ⟨(World.ownsRow.lt ho1 b e).2, (World.ownsRow.lt ho1 b e).1⟩
        have hms := hb1.size
        go_wp2_with fail
        generalize hw2 : w1.alloc (.cells #[.slice la X.ls.length lc, .bool X.ov, .int .i64 X.n, .int .i64 X.t, .bool X.has, .int .i64 X.kind] 34) = w2 at *
        have hsz2 : w1.heap.size < w2.heap.size := by rw [← hw2]; simp
        have hW12 : Below w1.heap.size w1 w2 := by rw [← hw2]; exact bal (Below.refl _ _) _
        clear hw2
        have D0 : Below w2.heap.size w2 w2.drew := (Below.refl _ _).drew
        have h3 := h2.later D0
        have hx3 := hx2.later D0
        have hpl3 := hpl2.later D0
        have B3 := Below.chain B2 D0
        have hW13 := Below.chain hW12 D0
        have hmo := fun W (hp : Ps W la X.ls.length X.ls) => metricOf_any la X.ls.length lc X W hf1 hp
        refine wp_region_noPanic ?_
        refine wp_region_held_drew (S := fun W => W.cell? ⟨rb, 0, none⟩ = some (.map (some mb))) (by kernel_rfl) ?_ (fun _ => ?_)
        · exact h3.c0
        have S3 := h3.c0
        have hsz3 : w2.heap.size ≤ w2.drew.heap.size := Nat.le_refl _
        generalize w2.drew = w3 at *
        refine take_at 0 (some 28) (.pointer (some ⟨rb, 0, none⟩)) rfl rfl (by kernel_rfl) (by kernel_rfl) (by kernel_rfl) (fun _ _ _ h => h) (by rfl) (fun W hSw => by go_simp) S3 ?_
        simp only [Act.put, List.setIfInBounds_toArray, List.set_cons_zero, List.set_cons_succ]
        refine take_at 1 (some 29) (.pointer (some ⟨rb, 0, none⟩)) rfl rfl (by kernel_rfl) (by kernel_rfl) (by kernel_rfl) (fun _ _ _ h => h) (by rfl) (fun W hSw => by go_simp) S3 ?_
        simp only [Act.put, List.setIfInBounds_toArray, List.set_cons_zero, List.set_cons_succ]
        refine take_at 2 (some 30) (.pointer (some ⟨rb, 0, none⟩)) rfl rfl (by kernel_rfl) (by kernel_rfl) (by kernel_rfl) (fun _ _ _ h => h) (by rfl) (fun W hSw => by go_simp) S3 ?_
        simp only [Act.put, List.setIfInBounds_toArray, List.set_cons_zero, List.set_cons_succ]
        refine take_at 3 (some 31) (.map (some mb)) rfl rfl (by kernel_rfl) (by kernel_rfl) (by kernel_rfl) (fun _ _ _ h => h) (by rfl) (fun W hSw => by go_simp) S3 ?_
        simp only [Act.put, List.setIfInBounds_toArray, List.set_cons_zero, List.set_cons_succ]
        refine wpAnyH_ready (rs := [4]) (by kernel_rfl) (by simp) ?_
        refine AllReadyH.cons rfl (fun K hK => ?_) AllReadyH.nil
        obtain ⟨c0, c1, c2, c3, c4, c5, f0, f1, f2, f3, f4, f5⟩ := hx3
        go_simp
        refine hK.out _ _ ?_ (fun _ => ?_)
        · exact S3
        clear hK K
        have hx3 : BoxX w3 w1.heap.size (.slice la X.ls.length lc) X := ⟨c0, c1, c2, c3, c4, c5, f0, f1, f2, f3, f4, f5⟩
        clear c0 c1 c2 c3 c4 c5 f0 f1 f2 f3 f4 f5
        refine wpAnyH_ready (rs := [5]) (by kernel_rfl) (by simp) ?_
        refine AllReadyH.cons rfl (fun K hK => ?_) AllReadyH.nil
        go_simp
        refine (hmo _ hpl3).mono ?_
        rintro e w4 ⟨rfl, hb4⟩
        have h4 := h3.later hb4
        have hx4 := hx3.later hb4
        have hpl4 := hpl3.later hb4
        have B4 := Below.chain B3 hb4
        have hW14 := Below.chain hW13 hb4
        refine hK.out _ _ ?_ (fun _ => ?_)
        · exact h4.c0
        clear hK K
        refine wpAnyH_ready (rs := [6]) (by kernel_rfl) (by simp) ?_
        refine AllReadyH.cons rfl (fun K hK => ?_) AllReadyH.nil
        refine step_look _ _ (some 34) rfl rfl (by rfl) mb n st.k (mname X) rfl rfl h4.km hf2 ?_
        refine hK.out _ _ ?_ (fun _ => ?_)
        · exact h4.c0
        clear hK K
        refine take_at 7 (some 35) (.pointer (some ⟨w1.heap.size, 5, none⟩)) rfl rfl (by kernel_rfl) (by kernel_rfl) (by kernel_rfl) (fun _ _ _ h => h) (by rfl) (fun W hSw => by go_simp) h4.c0 ?_
        simp only [Act.put, List.setIfInBounds_toArray, List.set_cons_zero, List.set_cons_succ]
        refine wpAnyH_ready (rs := [8]) (by kernel_rfl) (by simp) ?_
        refine AllReadyH.cons rfl (fun K hK => ?_) AllReadyH.nil
        have hfr := h0.fresh hms
        have hne : w1.heap.size ≠ rb := hfr.1
        obtain ⟨c0, c1, c2, c3, c4, c5, f0, f1, f2, f3, f4, f5⟩ := hx4
        go_simp
        have hg5 := grown_set w4 w1.heap.size 5 (.int .i64 (st.k (mname X)))
        have S5 := grown_cell hg5 h4.c0 (fun e => hne (by injection e with e; exact e.symm))
        refine hK.out _ _ ?_ (fun _ => ?_)
        · exact S5
        clear hK K
        refine wpAnyH_done (by kernel_rfl) ?_ _
        refine NoPanic.normal ?_
        have hx5 : BoxX (w4.setCell ⟨w1.heap.size, 5, none⟩ (.int .i64 (st.k (mname X)))) w1.heap.size (.slice la X.ls.length lc) (setK X (st.k (mname X))) := by
          refine ⟨?_, ?_, ?_, ?_, ?_, ?_, by simpa using f0, by simpa using f1, by simpa using f2, by simpa using f3, by simpa using f4, by simpa using f5⟩
          · rw [World.cell?_setCell_other _ _ _ _ (by intro e; cases e)]; exact c0
          · rw [World.cell?_setCell_other _ _ _ _ (by intro e; cases e)]; exact c1
          · rw [World.cell?_setCell_other _ _ _ _ (by intro e; cases e)]; exact c2
          · rw [World.cell?_setCell_other _ _ _ _ (by intro e; cases e)]; exact c3
          · rw [World.cell?_setCell_other _ _ _ _ (by intro e; cases e)]; exact c4
          · exact World.cell?_setCell_same' _ _ _ (by rw [c5]; rfl)
        have hB5 : Below w1.heap.size w1 (w4.setCell ⟨w1.heap.size, 5, none⟩ (.int .i64 (st.k (mname X)))) := by
          have e1 : Below w1.heap.size w1 w4 := hW14
          exact e1.setCell (p := ⟨w1.heap.size, 5, none⟩) (Nat.le_refl _) _
        have h5 := (h0.later hb1).later hB5
        have hpl5 := hpl.later hB5
        have B5 := Below.chain hb1 hB5
        clear c0 c1 c2 c3 c4 c5 f0 f1 f2 f3 f4 f5 S5 hg5 h4 hpl4 hx3 h3 hpl3 hx2 h2 hpl2 hmo
        generalize hw5 : w4.setCell ⟨w1.heap.size, 5, none⟩ (.int .i64 (st.k (mname X))) = w5 at *
        have hsz5 : w1.heap.size < w5.heap.size := hx5.lt
        clear hw5
        generalize hY : setK X (st.k (mname X)) = Y at *
        have HY : Hid (Y.ls = X.ls) := by show _ = _; rw [← hY]; rfl
        clear hY
        go_wp2_with fail
        have E0 : Below w5.heap.size w5 w5.drew := (Below.refl _ _).drew
        have h6 := h5.later E0
        have hx6 := hx5.later E0
        have hpl6 := hpl5.later E0
        have B6 := Below.chain B5 E0
        have hz6 := E0.size
        obtain ⟨i0, hi, hz0, hz1, hz2⟩ := info_parts34
        refine wp_region_noPanic ?_
        refine wp_region_held_drew (S := fun W => BoxX W w1.heap.size (.slice la X.ls.length lc) Y) (by kernel_rfl) ?_ (fun _ => ?_)
        · exact hx6
        generalize w5.drew = w6 at *
        refine take_at 0 (some 36) (.pointer (some ⟨rb, 0, none⟩)) rfl rfl (by kernel_rfl) (by kernel_rfl) (by kernel_rfl) (fun _ _ _ h => h) (by rfl) (fun W hSw => by go_simp) hx6 ?_
        simp only [Act.put, List.setIfInBounds_toArray, List.set_cons_zero, List.set_cons_succ]
        refine take_at 1 (some 37) (.pointer (some ⟨rb, 0, none⟩)) rfl rfl (by kernel_rfl) (by kernel_rfl) (by kernel_rfl) (fun _ _ _ h => h) (by rfl) (fun W hSw => by go_simp) hx6 ?_
        simp only [Act.put, List.setIfInBounds_toArray, List.set_cons_zero, List.set_cons_succ]
        refine take_at 2 (some 38) (.pointer (some ⟨rb, 0, none⟩)) rfl rfl (by kernel_rfl) (by kernel_rfl) (by kernel_rfl) (fun _ _ _ h => h) (by rfl) (fun W hSw => by go_simp) hx6 ?_
        simp only [Act.put, List.setIfInBounds_toArray, List.set_cons_zero, List.set_cons_succ]
        refine take_at 3 (some 39) (.pointer (some ⟨rb, 1, none⟩)) rfl rfl (by kernel_rfl) (by kernel_rfl) (by kernel_rfl) (fun _ _ _ h => h) (by rfl) (fun W hSw => by go_simp) hx6 ?_
        simp only [Act.put, List.setIfInBounds_toArray, List.set_cons_zero, List.set_cons_succ]
        refine take_at 5 (some 41) (.agg #[.slice la X.ls.length lc, .bool Y.ov, .int .i64 Y.n, .int .i64 Y.t, .bool Y.has, .int .i64 Y.kind]) rfl rfl (by kernel_rfl) (by kernel_rfl) (by kernel_rfl) (fun _ _ _ h => h) (by rfl) (fun W hSw => by obtain ⟨c0, c1, c2, c3, c4, c5, f0, f1, f2, f3, f4, f5⟩ := hSw; go_simp) hx6 ?_
        simp only [Act.put, List.setIfInBounds_toArray, List.set_cons_zero, List.set_cons_succ]
        refine wpAnyH_ready (rs := [4, 6]) (by kernel_rfl) (by simp) ?_
        refine AllReadyH.cons rfl (fun K hK => ?_) (AllReadyH.cons rfl (fun K hK => ?_) AllReadyH.nil)
        · have cc := h6.c1
          go_simp
          refine hK.out _ _ ?_ (fun _ => ?_)
          · exact hx6
          clear hK K
          refine wpAnyH_ready (rs := [6]) (by kernel_rfl) (by simp) ?_
          refine AllReadyH.cons rfl (fun K hK => ?_) AllReadyH.nil
          go_simp
          have hz := bal (Below.refl _ w6) (.cells #[.slice la X.ls.length lc, .bool Y.ov, .int .i64 Y.n, .int .i64 Y.t, .bool Y.has, .int .i64 Y.kind] 34)
          have h7 := h6.later hz
          have hx7 := hx6.later hz
          have hpl7 := hpl6.later hz
          have B7 := Below.chain B6 hz
          have hnx := BoxX.new w6 (.slice la X.ls.length lc) Y
          have hz7 := hz.size
          generalize w6.alloc (.cells #[.slice la X.ls.length lc, .bool Y.ov, .int .i64 Y.n, .int .i64 Y.t, .bool Y.has, .int .i64 Y.kind] 34) = w7 at *
          refine hK.out _ _ ?_ (fun _ => ?_)
          · exact hx7
          clear hK K
          refine wpAnyH_ready (rs := [7]) (by kernel_rfl) (by simp) ?_
          refine AllReadyH.cons rfl (fun K hK => ?_) AllReadyH.nil
          refine step_append_at _ _ (some 43) 23 rfl rfl (by rfl) 0 34 i0 (.agg #[.slice none 0 0, .bool false, .int .i64 0, .int .i64 0, .bool false, .int .i64 0]) 6 64 Tryz.underlying23 hi hz0 hz1 hz2 zero34 (by decide) sv _ _ rfl h7.ox.row ⟨w6.heap.size, 0, none⟩ 1 1 (six (.slice la X.ls.length lc, Y)) rfl rfl (six_cells hnx) (fun u hu => by simp [six] at hu; rcases hu with rfl | rfl | rfl | rfl | rfl | rfl <;> rfl) (by have := h7.lc; unfold maxLen; omega) (by have := h7.lc; omega) (Nat.zero_le _) ?_
          intro v8 w8 ho8 hg8 hl8
          obtain ⟨ao8, cap8, rfl⟩ := own_shape ho8
          have hx8 := hx7.kept hg8 (fun e => hfr.2.2.1 e.symm)
          refine hK.out _ _ ?_ (fun _ => ?_)
          · exact hx8
          clear hK K
          have hrow : some rb ≠ sv.ownBlock := fun e => (h7.gs rb e.symm).2.1 rfl
          have cc := grown_cell hg8 h7.c1 hrow
          have ff := grown_frozen hg8 h7.rlt h7.f1 hrow
          refine take_at 8 (some 44) (.pointer (some ⟨rb, 0, none⟩)) rfl rfl (by kernel_rfl) (by kernel_rfl) (by kernel_rfl) (fun _ _ _ h => h) (by rfl) (fun W hSw => by go_simp) hx8 ?_
          simp only [Act.put, List.setIfInBounds_toArray, List.set_cons_zero, List.set_cons_succ]
          refine take_at 9 (some 45) (.pointer (some ⟨rb, 1, none⟩)) rfl rfl (by kernel_rfl) (by kernel_rfl) (by kernel_rfl) (fun _ _ _ h => h) (by rfl) (fun W hSw => by go_simp) hx8 ?_
          simp only [Act.put, List.setIfInBounds_toArray, List.set_cons_zero, List.set_cons_succ]
          refine wpAnyH_ready (rs := [10]) (by kernel_rfl) (by simp) ?_
          refine AllReadyH.cons rfl (fun K hK => ?_) AllReadyH.nil
          go_simp
          have hx9 := hx8.kept (grown_set w8 rb 1 (.slice ao8 (l.length + 1) cap8)) (fun e => hne (by injection e))
          refine hK.out _ _ ?_ (fun _ => ?_)
          · exact hx9
          clear hK K
          refine wpAnyH_done (by kernel_rfl) ?_ _
          refine NoPanic.normal ?_
          go_wp2
          first | go_end0 | (refine bodyPost_ret (results_none rfl _ _ _) rfl ?_)
          obtain ⟨r1, r2⟩ := h7.sampled (x := Y) (fun b hb => Nat.lt_of_lt_of_le (hG0 b hb) B7.size) ho8 hg8 hl8 ⟨la, lc, by rw [HY.out], by rw [HY.out]; exact hpl7⟩ (fun b e => by
            obtain ⟨y1, y2⟩ := hlw b e
            obtain ⟨x1, x2, x3, x4⟩ := h0.fresh y2
            exact ⟨by omega, x1, x2, x3, x4⟩)
          exact ⟨rfl, n, _, bv, _, by rw [HS.out]; exact r1, (K0.trans (Keep.of B7 hG0)).trans r2⟩
        · go_simp
          have hz := bal (Below.refl _ w6) (.cells #[.slice la X.ls.length lc, .bool Y.ov, .int .i64 Y.n, .int .i64 Y.t, .bool Y.has, .int .i64 Y.kind] 34)
          have h7 := h6.later hz
          have hx7 := hx6.later hz
          have hpl7 := hpl6.later hz
          have B7 := Below.chain B6 hz
          have hnx := BoxX.new w6 (.slice la X.ls.length lc) Y
          have hz7 := hz.size
          generalize w6.alloc (.cells #[.slice la X.ls.length lc, .bool Y.ov, .int .i64 Y.n, .int .i64 Y.t, .bool Y.has, .int .i64 Y.kind] 34) = w7 at *
          refine hK.out _ _ ?_ (fun _ => ?_)
          · exact hx7
          clear hK K
          refine wpAnyH_ready (rs := [4]) (by kernel_rfl) (by simp) ?_
          refine AllReadyH.cons rfl (fun K hK => ?_) AllReadyH.nil
          have cc := h7.c1
          go_simp
          refine hK.out _ _ ?_ (fun _ => ?_)
          · exact hx7
          clear hK K
          refine wpAnyH_ready (rs := [7]) (by kernel_rfl) (by simp) ?_
          refine AllReadyH.cons rfl (fun K hK => ?_) AllReadyH.nil
          refine step_append_at _ _ (some 43) 23 rfl rfl (by rfl) 0 34 i0 (.agg #[.slice none 0 0, .bool false, .int .i64 0, .int .i64 0, .bool false, .int .i64 0]) 6 64 Tryz.underlying23 hi hz0 hz1 hz2 zero34 (by decide) sv _ _ rfl h7.ox.row ⟨w6.heap.size, 0, none⟩ 1 1 (six (.slice la X.ls.length lc, Y)) rfl rfl (six_cells hnx) (fun u hu => by simp [six] at hu; rcases hu with rfl | rfl | rfl | rfl | rfl | rfl <;> rfl) (by have := h7.lc; unfold maxLen; omega) (by have := h7.lc; omega) (Nat.zero_le _) ?_
          intro v8 w8 ho8 hg8 hl8
          obtain ⟨ao8, cap8, rfl⟩ := own_shape ho8
          have hx8 := hx7.kept hg8 (fun e => hfr.2.2.1 e.symm)
          refine hK.out _ _ ?_ (fun _ => ?_)
          · exact hx8
          clear hK K
          have hrow : some rb ≠ sv.ownBlock := fun e => (h7.gs rb e.symm).2.1 rfl
          have cc := grown_cell hg8 h7.c1 hrow
          have ff := grown_frozen hg8 h7.rlt h7.f1 hrow
          refine take_at 8 (some 44) (.pointer (some ⟨rb, 0, none⟩)) rfl rfl (by kernel_rfl) (by kernel_rfl) (by kernel_rfl) (fun _ _ _ h => h) (by rfl) (fun W hSw => by go_simp) hx8 ?_
          simp only [Act.put, List.setIfInBounds_toArray, List.set_cons_zero, List.set_cons_succ]
          refine take_at 9 (some 45) (.pointer (some ⟨rb, 1, none⟩)) rfl rfl (by kernel_rfl) (by kernel_rfl) (by kernel_rfl) (fun _ _ _ h => h) (by rfl) (fun W hSw => by go_simp) hx8 ?_
          simp only [Act.put, List.setIfInBounds_toArray, List.set_cons_zero, List.set_cons_succ]
          refine wpAnyH_ready (rs := [10]) (by kernel_rfl) (by simp) ?_
          refine AllReadyH.cons rfl (fun K hK => ?_) AllReadyH.nil
          go_simp
          have hx9 := hx8.kept (grown_set w8 rb 1 (.slice ao8 (l.length + 1) cap8)) (fun e => hne (by injection e))
          refine hK.out _ _ ?_ (fun _ => ?_)
          · exact hx9
          clear hK K
          refine wpAnyH_done (by kernel_rfl) ?_ _
          refine NoPanic.normal ?_
          go_wp2
          first | go_end0 | (refine bodyPost_ret (results_none rfl _ _ _) rfl ?_)
          obtain ⟨r1, r2⟩ := h7.sampled (x := Y) (fun b hb => Nat.lt_of_lt_of_le (hG0 b hb) B7.size) ho8 hg8 hl8 ⟨la, lc, by rw [HY.out], by rw [HY.out]; exact hpl7⟩ (fun b e => by
            obtain ⟨y1, y2⟩ := hlw b e
            obtain ⟨x1, x2, x3, x4⟩ := h0.fresh y2
            exact ⟨by omega, x1, x2, x3, x4⟩)
          exact ⟨rfl, n, _, bv, _, by rw [HS.out]; exact r1, (K0.trans (Keep.of B7 hG0)).trans r2⟩
      · have HS : Hid (stepL st i s = ⟨st.k, st.out, st.bad ++ [((i : Int), lineE s)]⟩) := step_bad hs0 hq1 hE
        have hE' : (lineE s != 0) = true := by rw [bne_iff_ne]; exact hE
        generalize stepL st i s = st' at *
        generalize lineS s = X at *
        generalize lineE s = E at *
        clear hs0 hq hq1 hE
        go_enter Tryz.func27, Tryz.ntmps27
        go_wp2_with fail
        generalize w.alloc (.cells _ 70) = w0 at *
        refine hli.mono ?_
        rintro e w1 ⟨v1, rfl, ho1, hb1⟩
        obtain ⟨la, lc, rfl, hpl⟩ := ho1.fitN
        have B2 := bal hb1 (.cells #[.slice la X.ls.length lc, .bool X.ov, .int .i64 X.n, .int .i64 X.t, .bool X.has, .int .i64 X.kind] 34)
        have h2 := h0.later B2
        have z2 := cell_later' z0 B2
        have hrf := fun W x y hR hg => refuse_any G W rb mb n sv bv l st c x y hR hg (by omega)
        go_wp2_with fail
        generalize w1.alloc (.cells #[.slice la X.ls.length lc, .bool X.ov, .int .i64 X.n, .int .i64 X.t, .bool X.has, .int .i64 X.kind] 34) = w2 at *
        refine (hrf _ _ _ h2 (fun b hb => Nat.lt_of_lt_of_le (hG0 b hb) B2.size)).mono ?_
        rintro e w3 ⟨rfl, bv', r1, r2⟩
        go_wp2
        first | go_end0 | (refine bodyPost_ret (results_none rfl _ _ _) rfl ?_)
        exact ⟨rfl, n, sv, bv', l, by rw [HS.out]; exact r1, (K0.trans (Keep.of B2 hG0)).trans r2⟩
end Go.Proofs.YtcbjhfnlhpallaaGreatDoor
