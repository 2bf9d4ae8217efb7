/- escaped, split, Print: each for every argument. -/
import Derived.Test.YtcbjhfnlhpallaaGreatDoorHeld
namespace Go.Proofs.YtcbjhfnlhpallaaGreatDoor
open Go.RowKit

theorem count_le (s : Str) (c : UInt8) : Lib.count s [c] ≤ s.length := by
  rw [Lib.count_one]
  exact List.count_le_length
theorem replace_any (s : Str) (c : UInt8) (new : Str) (w : World) (hs : s.length ≤ 1000000) (hn : new.length = 2) (hne : [c] ≠ new) (hm : Mx w) :
    Calls Tryz.prog 133 #[tx s, .string ⟨#[c]⟩, tx new] w fun e w' => e = .returned (tx (s.flatMap fun x => if x = c then new else [x])) ∧ Below w.heap.size w w' := by
  obtain ⟨m, hm⟩ := hm
  have hb : Lib.countB (⟨s.toArray⟩ : ByteArray) ⟨#[c]⟩ ≤ s.length := count_le s c
  have e2 : (⟨new.toArray⟩ : ByteArray).size = 2 := by rw [ba_size, hn]
  refine (Tryz.strings_ReplaceAll ⟨s.toArray⟩ ⟨#[c]⟩ ⟨new.toArray⟩ m w (by rw [ba_size]; omega) hm (Nat.le_refl 1) (by rw [ba_size, e2]; omega)).mono ?_
  rintro e w' ⟨rfl, hb⟩
  refine ⟨?_, hb⟩
  rw [← replaceAll_one c new s hne]
theorem esc_two (v : Str) : (v.flatMap fun x => if x = 92 then [92, 92] else [x]).flatMap (fun x => if x = 34 then [92, 34] else [x]) = esc v := by
  rw [← esc_eq, replaceAll_one _ _ _ (by simp), replaceAll_one _ _ _ (by simp)]
theorem esc_one_len (v : Str) : (v.flatMap fun x => if x = 92 then [92, 92] else [x]).length ≤ 2 * v.length := by
  induction v with
  | nil => simp
  | cons x v ih =>
    rw [List.flatMap_cons, List.length_append, List.length_cons]
    have : (if x = 92 then ([92, 92] : Str) else [x]).length ≤ 2 := by split <;> simp
    omega
theorem escaped_any (v : Str) (w : World) (hv : v.length ≤ 1000) (hm : Mx w) : Calls Tryz.prog 105 #[tx v] w fun e w' => e = .returned (tx (esc v)) ∧ Below w.heap.size w w' := by
  have h1 := replace_any v 92 [92, 92] w (by omega) rfl (by simp) hm
  have hl := esc_one_len v
  have h2 := fun W (hW : Below w.heap.size w W) => replace_any (v.flatMap fun x => if x = 92 then [92, 92] else [x]) 34 [92, 34] W (by omega) rfl (by simp) (hm.later hW)
  rw [esc_two] at h2
  clear hl
  generalize (v.flatMap fun x => if x = 92 then [92, 92] else [x]) = u at *
  go_enter Tryz.func105, Tryz.ntmps105
  go_wp2_with fail
  refine h1.mono ?_
  rintro e w1 ⟨rfl, hb1⟩
  go_wp2_with fail
  refine (h2 _ hb1).mono ?_
  rintro e w2 ⟨rfl, hb2⟩
  go_wp2
  go_ret
  exact ⟨rfl, Below.chain hb1 hb2⟩
theorem get_len {l : List Pr} (hf : Fit l) (n : Str) : (fGet l n).length ≤ 9223372036854775807 := by
  by_cases h : fGet l n = []
  · rw [h]; simp
  · exact (hf _ (get_mem h)).2
set_option maxHeartbeats 1000000 in
theorem split_any (xa : Option Addr) (n c : Nat) (l : List Pr) (w : World) (hn : n ≤ 1000000) (hf : Fit l) (hx : Ps w xa n l) :
    Calls Tryz.prog 104 #[.slice xa n c] w fun e w' => ∃ ao cap, e = .returned (.tuple #[tx (metric l), .slice ao (others l).length cap]) ∧ Ps w' ao (others l).length (others l) ∧ Below w.heap.size w w' := by
  have hg := get_any xa n c l nm w (by omega) hx
  have hnm := fun W => name_any (fGet l nm) W (get_len hf nm)
  unfold metric others
  generalize fGet l nm = g at *
  cases hN : fName g with
  | true =>
    rw [hN] at hnm
    rw [if_pos rfl, if_pos rfl]
    go_enter Tryz.func104, Tryz.ntmps104
    go_wp2_with fail
    refine hg.mono ?_
    rintro e w1 ⟨rfl, hb1⟩
    go_wp2_with (go_at_call 66; refine (hnm _).mono ?_; rintro e w' ⟨rfl, rfl⟩)
    refine (without_any xa n c l none 0 0 [] w1 hn (by omega) (hx.later hb1) (Ss.nil _ _)).mono ?_
    rintro e w2 ⟨v, rfl, ho, hb2⟩
    obtain ⟨ao, cap, rfl, hps, _⟩ := ho.slice
    go_wp2
    go_ret2
    exact ⟨ao, cap, rfl, hps, Below.chain hb1 hb2⟩
  | false =>
    rw [hN] at hnm
    rw [if_neg (by simp), if_neg (by simp)]
    have HL : Hid (l.length = n) := hx.1
    go_enter Tryz.func104, Tryz.ntmps104
    go_wp2_with fail
    refine hg.mono ?_
    rintro e w1 ⟨rfl, hb1⟩
    go_wp2_with (go_at_call 66; refine (hnm _).mono ?_; rintro e w' ⟨rfl, rfl⟩)
    go_ret2
    exact ⟨xa, c, by rw [HL.out]; rfl, by rw [HL.out]; exact hx.later hb1, hb1⟩

theorem join_any (v : Value) (base : Nat) (l : List Str) (w : World) (ho : OwnS w base v l) (hl : (Lib.join l [44]).length ≤ 1000000) (hN : l.length ≤ 1000000) :
    Calls Tryz.prog 106 #[v, .string ⟨#[44]⟩] w fun e w' => e = .returned (tx (Lib.join l [44])) ∧ Below w.heap.size w w' := by
  obtain ⟨ao, cap, rfl, hs, hc, hb⟩ := ho.slice
  by_cases h0 : l.length = 0
  · obtain rfl : l = [] := List.length_eq_zero_iff.1 h0
    refine (Tryz.strings_Join_none ao cap ⟨#[44]⟩ w).mono ?_
    rintro e w' ⟨rfl, rfl⟩
    exact ⟨rfl, Below.refl _ _⟩
  · have hpos : 0 < l.length := Nat.pos_of_ne_zero h0
    obtain ⟨g, rfl, hlt⟩ := hb hpos
    obtain ⟨_, h4⟩ := hs
    obtain ⟨b, off, e, hcell⟩ := h4 hpos
    cases e
    have em : (l.map fun s => (⟨s.toArray⟩ : ByteArray)).map (·.data.toList) = l := by
      rw [List.map_map]
      conv => rhs; rw [← List.map_id l]
      apply List.map_congr_left
      intro s _
      simp
    have h := Tryz.strings_Join g 0 cap (l.map fun s => (⟨s.toArray⟩ : ByteArray)) ⟨#[44]⟩ w (fun j x hx => by
      rw [List.getElem?_map] at hx
      cases hj : l[j]? with
      | none => rw [hj] at hx; cases hx
      | some s =>
        rw [hj] at hx
        cases hx
        have hlt : j < l.length := by
          by_cases h : j < l.length
          · exact h
          · rw [List.getElem?_eq_none (by omega)] at hj; cases hj
        rw [hcell j hlt, List.getD, hj]
        rfl) hlt (by simp; omega) (by simpa using hc) (by rw [em]; show (Lib.join l [44]).length ≤ _; omega)
    rw [em] at h
    simp only [List.length_map] at h
    exact h.mono fun e w' ⟨he, hb⟩ => ⟨he, hb⟩
theorem ba_append (x y : List UInt8) : (⟨x.toArray⟩ : ByteArray) ++ ⟨y.toArray⟩ = ⟨(x ++ y).toArray⟩ := by
  apply ByteArray.ext
  simp
theorem exec_add {P : Program} {a : Act} {o : Oper} {x y : Operand} {t u : TypeId} (ho : o.op = .binOp .add t x y u) (s r : Str) (hx : a.eval x = tx s) (hy : a.eval y = tx r) (hl : s.length + r.length ≤ 8388608) (q : Str) (hq : q = s ++ r) (w : World) : (execOp a.eval o).run P w = .ok (.value (tx q)) w := by
  subst hq
  unfold execOp
  simp only [ho, hx, hy]
  simp only [binOp_string_add, Sem.run_bind, Sem.run_pure]
  go_simp
  rw [if_neg (by omega), ba_append]
theorem Box.both {w : World} {b : Nat} {p : Pr} (h : Box w b p) : w.cell? ⟨b, 0, none⟩ = some (tx p.1) ∧ w.cell? ⟨b, 1, none⟩ = some (tx p.2) := ⟨h.c0, h.c1⟩
theorem Box.grown {w w' : World} {b : Nat} {p : Pr} {row : Option Nat} (h : Box w b p) (hg : w.grownBy w' row) (hne : some b ≠ row) : Box w' b p := by
  have e := hg.block b h.lt hne
  exact ⟨(World.cell?_of_block (a := ⟨b, 0, none⟩) e).trans h.c0, (World.cell?_of_block (a := ⟨b, 1, none⟩) e).trans h.c1, (World.frozen?_of_block (a := ⟨b, 0, none⟩) e).trans h.f0, (World.frozen?_of_block (a := ⟨b, 1, none⟩) e).trans h.f1⟩
theorem one_cell {w : World} {b : Nat} {v : Value} (h : w.cell? ⟨b, 0, none⟩ = some v) : ∀ j u, [v][j]? = some u → w.cell? ((⟨b, 0, none⟩ : Addr).add j) = some u := by
  intro j u hu
  rw [Addr.add_lit, Nat.zero_add]
  match j, hu with
  | 0, hu => rw [h]; exact hu
  | j + 1, hu => simp at hu
theorem inner_le (l : List Pr) (h : ∀ p ∈ l, p.1.length ≤ 20 ∧ p.2.length ≤ 30) : (inner l).length ≤ l.length * 84 := by
  induction l with
  | nil => simp [inner, Lib.join_nil]
  | cons p l ih =>
    have hp := h p List.mem_cons_self
    have he := esc_len p.2
    have ih' := ih fun q hq => h q (List.mem_cons_of_mem _ hq)
    have ht : (pairT p).length ≤ 83 := by simp [pairT]; omega
    cases l with
    | nil => rw [inner_one]; simp; omega
    | cons q l => rw [inner_cons, List.length_append, List.length_append]; simp at *; omega
theorem map_snoc {l : List Pr} {j : Nat} (hj : j < l.length) : (l.take (j + 1)).map pairT = (l.take j).map pairT ++ [(l.getD j ([], [])).1 ++ [61, 34] ++ esc (l.getD j ([], [])).2 ++ [34]] := by
  rw [List.take_succ_eq_append_getElem hj, List.map_append, getD_at hj]
  rfl
theorem others_is {l : List Pr} (h : fIs l = true) : (others l).length ≤ 8 ∧ ∀ p ∈ others l, p.1.length ≤ 20 ∧ p.2.length ≤ 30 := by
  have h' := (is_iff l).1 h
  have hs : ∀ p ∈ others l, p ∈ l := by
    unfold others
    split
    · exact fun p hp => (List.mem_filter.1 hp).1
    · exact fun p hp => hp
  have hl : (others l).length ≤ l.length := by
    unfold others
    split
    · exact List.length_filter_le _ _
    · exact Nat.le_refl _
  refine ⟨by omega, fun p hp => ?_⟩
  have := h'.2.1 p (hs p hp)
  exact ⟨(name_len this.1).2, (val_len this.2).2⟩
theorem metric_len (l : List Pr) : (metric l).length ≤ 20 := by
  unfold metric
  split
  · rename_i h; exact (name_len h).2
  · simp

set_option maxRecDepth 20000 in
set_option maxHeartbeats 4000000 in
theorem print_any (xa : Option Addr) (n c : Nat) (l : List Pr) (w : World) (hn : n ≤ 1000000) (hf : Fit l) (hm : Mx w) (hx : Ps w xa n l) :
    Calls Tryz.prog 65 #[.slice xa n c] w fun e w' => e = .returned (tx (fPrint l)) ∧ Below w.heap.size w w' := by
  have his := is_any xa n c l w (by omega) hf hx
  cases hI : fIs l with
  | false =>
    rw [hI] at his
    have HR : Hid (fPrint l = []) := by show _ = _; unfold fPrint; rw [hI]; rfl
    clear hI
    go_enter Tryz.func65, Tryz.ntmps65
    go_wp2_with fail
    refine his.mono ?_
    rintro e w1 ⟨rfl, hb1⟩
    go_wp2
    go_ret
    exact ⟨by rw [HR.out]; rfl, hb1⟩
  | true =>
    rw [hI] at his
    obtain ⟨i0, hi, hz0, hz1, hz2⟩ := info_parts9
    have hot := others_is hI
    have hml := metric_len l
    have HR : Hid (fPrint l = if metric l ≠ [] ∧ others l = [] then metric l else metric l ++ [123] ++ inner (others l) ++ [125]) := by show _ = _; unfold fPrint; rw [if_pos hI]
    clear hI
    have hsp := fun W (hW : Below w.heap.size w W) => split_any xa n c l W hn hf (hx.later hW)
    generalize fPrint l = R at *
    generalize metric l = ms at *
    generalize others l = os at *
    obtain ⟨ho8, hov⟩ := hot
    by_cases hme : ms ≠ [] ∧ os = []
    · obtain ⟨h1, rfl⟩ := hme
      rw [if_pos ⟨h1, rfl⟩] at HR
      have h1' : (ms == []) = false := by simpa using h1
      clear h1
      go_enter Tryz.func65, Tryz.ntmps65
      go_wp2_with fail
      refine his.mono ?_
      rintro e w1 ⟨rfl, hb1⟩
      go_wp2_with fail
      refine (hsp w1 hb1).mono ?_
      rintro e w2 ⟨ao, cap, rfl, hps, hb2⟩
      go_wp2
      go_ret
      exact ⟨by rw [HR.out]; rfl, Below.chain hb1 hb2⟩
    · rw [if_neg hme] at HR
      have hcase : (ms == []) = true ∨ ((ms == []) = false ∧ ((os.length : Int) == 0) = false) := by
        by_cases h : ms = []
        · exact Or.inl (by simpa using h)
        · refine Or.inr ⟨by simpa using h, ?_⟩
          rw [beq_eq_false_iff_ne]
          intro e
          exact hme ⟨h, List.length_eq_zero_iff.1 (by omega)⟩
      clear hme
      have hil := inner_le os hov
      rcases hcase with h1 | ⟨h1, h2⟩
      all_goals
        go_enter Tryz.func65, Tryz.ntmps65
        go_wp2_with fail
        refine his.mono ?_
        rintro e w1 ⟨rfl, hb1⟩
        go_wp2_with fail
        refine (hsp w1 hb1).mono ?_
        rintro e w2 ⟨ao, cap, rfl, hps, hb2⟩
        have hb12 : Below w.heap.size w w2 := Below.chain hb1 hb2
        obtain ⟨_, hcell⟩ := hps
        go_wp2_with fail
        go_loopw [27, 5] (fun i u wr => ∃ (j : Nat) (v : Value), j ≤ os.length ∧ i = .int .i64 j ∧ v = u ∧ OwnS wr w2.heap.size v ((os.take j).map pairT) ∧ Below w2.heap.size w2 wr) (fun i _ _ => os.length - (intOf i).toNat)
        case atStart => exact ⟨0, _, by omega, rfl, rfl, World.ownsRow_made w2 #[] 0 (Nat.le_refl _) (Nat.zero_le _) (by simp), bal (Below.refl _ _) _⟩
        case round =>
          obtain ⟨j, v, hj, rfl, rfl, ho, hb⟩ := hrel
          by_cases hlt : j < os.length
          · obtain ⟨b1, o1, rfl, h1⟩ := hcell (by omega)
            obtain ⟨c10, c11⟩ := h1 j hlt
            have k0 := (hb.cell (p := ⟨b1, o1 + j * 2, none⟩) (World.block_lt_of_cell? _ _ c10)).trans c10
            have k1 := (hb.cell (p := ⟨b1, o1 + j * 2 + 1, none⟩) (World.block_lt_of_cell? _ _ c11)).trans c11
            have HSN : Hid _ := map_snoc hlt
            have hpl := hov (os.getD j ([], [])) (by rw [getD_at hlt]; exact List.getElem_mem hlt)
            have hle : ((os.take j).map pairT).length ≤ 8 := by simp; omega
            clear h1 hcell c10 c11
            generalize os.getD j ([], []) = p at *
            obtain ⟨p1, p2⟩ := p
            dsimp only at *
            generalize (os.take j).map pairT = ts at *
            obtain ⟨hp1, hp2⟩ := hpl
            have hel := esc_len p2
            obtain ⟨t1, ht1⟩ : ∃ t, t = p1 ++ [61, 34] := ⟨_, rfl⟩
            obtain ⟨t2, ht2⟩ : ∃ t, t = t1 ++ esc p2 := ⟨_, rfl⟩
            obtain ⟨t3, ht3⟩ : ∃ t, t = t2 ++ [34] := ⟨_, rfl⟩
            have hl1 : t1.length ≤ 22 := by rw [ht1]; simp; omega
            have hl2 : t2.length ≤ 82 := by rw [ht2]; simp; omega
            have H1 : Hid _ := ht1
            have H2 : Hid _ := ht2
            have H3 : Hid _ := ht3
            rw [← ht1, ← ht2, ← ht3] at HSN
            clear ht1 ht2 ht3
            have hvb : ∀ _ : Unit, some wr.heap.size ≠ v.ownBlock := fun _ e => by have := (World.ownsRow.lt ho _ e.symm).2; omega
            have hbx := Box.new wr (p1, p2)
            have hbq := bal hb (.cells #[tx p1, tx p2] 58)
            have hoq := ho.later (bal (Below.refl _ _) (.cells #[tx p1, tx p2] 58))
            have hmq : Mx (wr.alloc (.cells #[tx p1, tx p2] 58)) := (hm.later hb12).later hbq
            have hes := fun W => escaped_any p2 W (by omega)
            go_wp2_with fail
            generalize wr.alloc (.cells #[tx p1, tx p2] 58) = wq at *
            have B2 : Below wq.heap.size wq wq.drew := (Below.refl _ _).drew
            have S2 := (hbx.later B2).both
            refine wp_region_noPanic ?_
            refine wp_region_held_drew (S := fun W => W.cell? ⟨wr.heap.size, 0, none⟩ = some (tx p1) ∧ W.cell? ⟨wr.heap.size, 1, none⟩ = some (tx p2)) (by kernel_rfl) ?_ (fun _ => ?_)
            · exact S2
            generalize wq.drew = wd at *
            refine take_at 0 (some 31) (v) rfl rfl (by kernel_rfl) (by kernel_rfl) (by kernel_rfl) (fun _ _ _ h => h) (by rfl) (fun W hSw => by go_simp) S2 ?_
            simp only [Act.put, List.setIfInBounds_toArray, List.set_cons_zero, List.set_cons_succ]
            refine take_at 1 (some 32) (.pointer (some ⟨wr.heap.size, 0, none⟩)) rfl rfl (by kernel_rfl) (by kernel_rfl) (by kernel_rfl) (fun _ _ _ h => h) (by rfl) (fun W hSw => by go_simp) S2 ?_
            simp only [Act.put, List.setIfInBounds_toArray, List.set_cons_zero, List.set_cons_succ]
            refine take_at 2 (some 33) (tx p1) rfl rfl (by kernel_rfl) (by kernel_rfl) (by kernel_rfl) (fun _ _ _ h => h) (by rfl) (fun W hSw => by obtain ⟨s0, s1⟩ := hSw; go_simp) S2 ?_
            simp only [Act.put, List.setIfInBounds_toArray, List.set_cons_zero, List.set_cons_succ]
            refine take_at 3 (some 34) (tx t1) rfl rfl (by kernel_rfl) (by kernel_rfl) (by kernel_rfl) (fun _ _ _ h => h) (by rfl) (fun W hSw => exec_add rfl p1 [61, 34] rfl rfl (by simp; omega) t1 H1.out W) S2 ?_
            simp only [Act.put, List.setIfInBounds_toArray, List.set_cons_zero, List.set_cons_succ]
            refine take_at 4 (some 35) (.pointer (some ⟨wr.heap.size, 1, none⟩)) rfl rfl (by kernel_rfl) (by kernel_rfl) (by kernel_rfl) (fun _ _ _ h => h) (by rfl) (fun W hSw => by go_simp) S2 ?_
            simp only [Act.put, List.setIfInBounds_toArray, List.set_cons_zero, List.set_cons_succ]
            refine take_at 5 (some 36) (tx p2) rfl rfl (by kernel_rfl) (by kernel_rfl) (by kernel_rfl) (fun _ _ _ h => h) (by rfl) (fun W hSw => by obtain ⟨s0, s1⟩ := hSw; go_simp) S2 ?_
            simp only [Act.put, List.setIfInBounds_toArray, List.set_cons_zero, List.set_cons_succ]
            refine wpAnyH_ready (rs := [6]) (by kernel_rfl) (by simp) ?_
            refine AllReadyH.cons rfl (fun K hK => ?_) AllReadyH.nil
            go_simp
            refine (hes _ (hmq.later B2)).mono ?_
            rintro e w3 ⟨rfl, hb3⟩
            have B3 := Below.chain B2 hb3
            have S3 := (hbx.later B3).both
            refine hK.out _ _ ?_ (fun _ => ?_)
            · exact S3
            clear hK K
            refine take_at 7 (some 38) (tx t2) rfl rfl (by kernel_rfl) (by kernel_rfl) (by kernel_rfl) (fun _ _ _ h => h) (by rfl) (fun W hSw => exec_add rfl t1 (esc p2) rfl rfl (by omega) t2 H2.out W) S3 ?_
            simp only [Act.put, List.setIfInBounds_toArray, List.set_cons_zero, List.set_cons_succ]
            refine take_at 8 (some 39) (tx t3) rfl rfl (by kernel_rfl) (by kernel_rfl) (by kernel_rfl) (fun _ _ _ h => h) (by rfl) (fun W hSw => exec_add rfl t2 [34] rfl rfl (by simp; omega) t3 H3.out W) S3 ?_
            simp only [Act.put, List.setIfInBounds_toArray, List.set_cons_zero, List.set_cons_succ]
            refine wpAnyH_ready (rs := [9]) (by kernel_rfl) (by simp) ?_
            refine AllReadyH.cons rfl (fun K hK => ?_) AllReadyH.nil
            go_simp
            have B4 := bal B3 (.cells #[tx t3] 9)
            have S4 := (hbx.later B4).both
            have hnw : (w3.alloc (.cells #[tx t3] 9)).cell? ⟨w3.heap.size, 0, none⟩ = some (tx t3) := World.cell?_alloc_new w3 _ _ 0
            refine hK.out _ _ ?_ (fun _ => ?_)
            · exact S4
            clear hK K
            refine wpAnyH_ready (rs := [10]) (by kernel_rfl) (by simp) ?_
            refine AllReadyH.cons rfl (fun K hK => ?_) AllReadyH.nil
            refine step_append _ _ (some 41) 48 rfl rfl (by rfl) w2.heap.size 9 i0 (tx []) 1 16 Tryz.underlying48 hi hz0 hz1 hz2 rfl (by decide) v _ _ rfl (hoq.later B4) ⟨w3.heap.size, 0, none⟩ 1 1 [tx t3] rfl rfl (one_cell hnw) (fun u hu => by cases hu with | head => rfl | tail _ h => cases h) (by unfold maxLen; omega) (by omega) (Nat.le_trans hbq.size B4.size) ?_
            intro v5 w5 ho5 hg5
            have B5 : Below w2.heap.size w2 w5 := (hbq.trans (B4.mono hbq.size)).grown hg5 (Nat.le_trans hbq.size B4.size) (fun k hk => (World.ownsRow.lt (hoq.later B4) k hk).1)
            have S5 := ((hbx.later B4).grown hg5 (hvb ())).both
            refine hK.out _ _ ?_ (fun _ => ?_)
            · exact S5
            clear hK K
            refine take_at 11 (some 5) (v5) rfl rfl (by kernel_rfl) (by kernel_rfl) (by kernel_rfl) (fun _ _ _ h => h) (by rfl) (fun W hSw => by go_simp) S5 ?_
            simp only [Act.put, List.setIfInBounds_toArray, List.set_cons_zero, List.set_cons_succ]
            refine wpAnyH_done (by kernel_rfl) ?_ _
            refine NoPanic.normal ?_
            go_wp2
            go_roundw
            case rel =>
              refine ⟨j + 1, _, by omega, by go_num, rfl, ?_, B5⟩
              rw [HSN.out]
              exact OwnS.snoc ho5
            case measure => simp [intOf]; omega
          · have HT : Hid ((os.take j).map pairT = os.map pairT) := by show _ = _; rw [List.take_of_length_le (by omega)]
            rw [HT.out] at ho
            have hjo := join_any v w2.heap.size (os.map pairT) wr ho (by show (inner os).length ≤ _; omega) (by simp; omega)
            have HI : Hid (Lib.join (os.map pairT) [44] = inner os) := rfl
            rw [HI.out] at hjo
            have hap := ba_append
            have h8 : os.length * 84 ≤ 672 := by omega
            have hil' : (inner os).length ≤ 672 := by omega
            clear hil HI HT h8
            generalize inner os = t at *
            go_wp2_with fail
            refine hjo.mono ?_
            rintro e w4 ⟨rfl, hb4⟩
            go_wp2
            go_ret
            exact ⟨by rw [HR.out]; simp, (hb12.trans (hb.mono hb12.size)).trans (hb4.mono (hb12.trans (hb.mono hb12.size)).size)⟩
end Go.Proofs.YtcbjhfnlhpallaaGreatDoor
