/- The reference's sorted: the same pairs, by their names. -/
import Derived.Test.YtideieolgjhbiaaGreatDoorRefIs
import Derived.Test.YtideieolgjhbiaaGreatDoorRefC
import Derived.Test.YtideieolgjhbiaaGreatDoorSmall
import Derived.Test.YtideieolgjhbiaaGreatDoorCopy2
namespace Go.Proofs.YtideieolgjhbiaaGreatDoor
open Go.RowKit

def cutA (ao : Option Addr) (cap k : Nat) : Option Addr := if cap = k then ao else ao.map (·.add (k * 2))
theorem getD_cut (l : List Pr) (lo hi j : Nat) (h : lo + j < hi) : ((l.take hi).drop lo).getD j ([], []) = l.getD (lo + j) ([], []) := by
  simp only [List.getD, List.getElem?_drop, List.getElem?_take]
  rw [if_pos h]
theorem Ps.cut {w : World} {ao : Option Addr} {n cap : Nat} {l : List Pr} (h : Ps w ao n l) (hc : n ≤ cap) (lo hi : Nat) (h1 : lo ≤ hi) (h2 : hi ≤ n) : Ps w (cutA ao cap lo) (hi - lo) ((l.take hi).drop lo) := by
  obtain ⟨e1, e4⟩ := h
  refine ⟨by simp; omega, fun hp => ?_⟩
  obtain ⟨b, off, rfl, hcell⟩ := e4 (by omega)
  refine ⟨b, off + lo * 2, ?_, fun j hj => ?_⟩
  · unfold cutA
    rw [if_neg (by omega)]
    simp [Addr.add_lit]
  · have := hcell (lo + j) (by omega)
    have e : off + (lo + j) * 2 = off + lo * 2 + j * 2 := by omega
    rw [e] at this
    rw [getD_cut l lo hi j (by omega)]
    exact this
theorem sizeElem (w : World) : (sizeOf (Tryz.prog.elem 22)).run Tryz.prog w = .ok 2 w := by kernel_rfl
theorem sliceElem : Tryz.prog.underlying 22 = some (.slice (Tryz.prog.elem 22)) := by kernel_rfl
theorem cut_back (ao : Option Addr) (n cap k : Nat) (h : k ≤ n) (w : World) : (Instr.slice 22 (.slice ao n cap) (some (.int .i64 k)) none none).run Tryz.prog w = .ok (.slice (cutA ao cap k) (n - k) (cap - k)) w := by
  rw [run_slice_l w 22 ao n cap sliceElem .i64 (k : Int) (by omega) (by omega), sizeElem]
  simp [sliced, cutA, Result.andThen]
theorem step_copy2 {ops : Array Oper} {o : Oper} {a : Act} {W : World} {K : Act → World → Prop} {Q : Exit → Act → World → Prop} {E : Prop} (d s : Operand) (dd : Option Tmp)
    (ho : o.op = .call { callee := .builtin .copy, args := #[d, s], argTypes := #[22, 22] }) (hd : o.dst = dd) (hw : Region.wanted o (yielded ops a.tmps) = true)
    (base g M cap k : Nat) (R : List Pr) (hk : k + 1 ≤ M) (hdv : a.eval d = .slice (cutA (some ⟨g, 0, none⟩) cap (k + 1)) (M - (k + 1)) (cap - (k + 1))) (hsv : a.eval s = .slice (cutA (some ⟨g, 0, none⟩) cap k) (M - k) (cap - k))
    (hown : Own W base (.slice (some ⟨g, 0, none⟩) M cap) R)
    (h : ∀ W', Own W' base (.slice (some ⟨g, 0, none⟩) M cap) (R.take (k + 1) ++ (R.drop k).take (M - k - 1)) → (∀ B w0, Below B w0 W → B ≤ g → Below B w0 W') → K (a.put dd (goInt ((M - k - 1 : Nat) : Int))) W') :
    if Region.wanted o (yielded ops a.tmps) = true then Oper.wp Tryz.prog o a W K Q else E := by
  subst hd
  rw [if_pos hw]
  obtain ⟨ao, cap', e, hps, hcap⟩ := hown.slice
  cases e
  by_cases hz : k + 1 = R.length
  · have hrun := run_copy2_none W o.type (cutA (some ⟨g, 0, Option.none⟩) cap (k + 1)) (cutA (some ⟨g, 0, Option.none⟩) cap k) (R.length - (k + 1)) (cap - (k + 1)) (R.length - k) (cap - k) (by rw [hz]; simp)
    have e0 : R.length - k - 1 = 0 := by omega
    have := h W (by
      rw [e0, List.take_zero, List.append_nil, List.take_of_length_le (by omega)]
      exact hown) (fun _ _ hb _ => hb)
    simp only [e0] at this
    unfold Oper.wp
    simp [execOp, ho, resolve, invoke, builtin, hdv, hsv, hrun, Result.andThen]
    exact this
  · obtain ⟨cur, hg, hsz, hO⟩ := own_copy hown k hk
    have hc1 : cutA (some ⟨g, 0, Option.none⟩) cap (k + 1) = some ⟨g, (k + 1) * 2, Option.none⟩ := by unfold cutA; rw [if_neg (by omega)]; simp [Addr.add_lit]
    have hc2 : cutA (some ⟨g, 0, Option.none⟩) cap k = some ⟨g, k * 2, Option.none⟩ := by unfold cutA; rw [if_neg (by omega)]; simp [Addr.add_lit]
    have hsrc := hps.cut hcap k (R.length - 1) (by omega) (by omega)
    rw [hc2, List.drop_take, show R.length - 1 - k = R.length - k - 1 by omega] at hsrc
    have hcl : (cellsP ((R.drop k).take (R.length - k - 1))).length = (R.length - k - 1) * 2 := by rw [cellsP_length]; simp
    have hrun := run_copy2 W o.type g ((k + 1) * 2) (R.length - (k + 1)) (cap - (k + 1)) ⟨g, k * 2, Option.none⟩ (R.length - k) (cap - k) (R.length - k - 1) cur 44 (cellsP ((R.drop k).take (R.length - k - 1))) hg (by show _ = min _ _; omega) hcl hsrc.cells (by rw [hcl]; omega) (cellsP_one _)
    have := h _ hO (fun B w0 hb hB => below_setRow hb hB _)
    rw [hc1] at hdv
    rw [hc2] at hsv
    unfold Oper.wp
    simp only [execOp, ho, resolve, invoke, builtin, hdv, hsv, Sem.run_bind, Sem.run_pure, Result.andThen_ok, List.map_toArray, List.map_cons, List.map_nil, hrun]
    exact this

theorem own_some {w : World} {base : Nat} {v : Value} {l : List Pr} {K : Nat} (h : Own w base v l) (hK : l.length = K + 1) : ∃ g cap, v = .slice (some ⟨g, 0, none⟩) (K + 1) cap := by
  rcases h.2 with ⟨rfl, h0⟩ | ⟨g, cap, cur, rfl, _⟩
  · omega
  · exact ⟨g, cap, by rw [hK]⟩
theorem own_slice6 {w : World} {base : Nat} {v : Value} {l : List Pr} {K : Nat} (h : Own w base v l) (hK : l.length = K) : ∃ ao cap, v = .slice ao K cap ∧ Ps w ao K l ∧ K ≤ cap := by
  obtain ⟨ao, cap, e, hp, hc⟩ := h.slice
  subst hK
  exact ⟨ao, cap, e, hp, hc⟩
theorem own_cells {w : World} {base g M cap : Nat} {R : List Pr} (ho : Own w base (.slice (some ⟨g, 0, none⟩) M cap) R) (i : Nat) (h : i < M) : w.cell? ⟨g, i * 2, none⟩ = some (tx (R.getD i ([], [])).1) ∧ w.cell? ⟨g, i * 2 + 1, none⟩ = some (tx (R.getD i ([], [])).2) := by
  obtain ⟨ao, cap', e, hp, _⟩ := ho.slice
  cases e
  obtain ⟨b, o, e, hc⟩ := hp.2 (by omega)
  cases e
  have := hc i h
  simpa using this
theorem own_frozen {w : World} {base g M cap : Nat} {R : List Pr} (ho : Own w base (.slice (some ⟨g, 0, none⟩) M cap) R) (i : Nat) : w.frozen? ⟨g, i, none⟩ = false := by
  obtain ⟨ao, cap', e, hp, _⟩ := ho.slice
  cases e
  exact World.ownsRow.frozenAt ho i
theorem ins_at {out : List Pr} {k : Nat} {z p : Pr} (h : k ≤ out.length) : ((out ++ [z]).take (k + 1) ++ ((out ++ [z]).drop k).take (out.length + 1 - k - 1)).set k p = out.take k ++ p :: out.drop k := by
  have e1 : ((out ++ [z]).drop k).take (out.length + 1 - k - 1) = out.drop k := by
    rw [List.drop_append_of_le_length h, List.take_append_of_le_length (by simp; omega), List.take_of_length_le (by simp; omega)]
  have hk : k < (out ++ [z]).length := by simp; omega
  have e2 : (out ++ [z]).take (k + 1) = out.take k ++ [(out ++ [z])[k]] := by
    rw [List.take_succ_eq_append_getElem hk, List.take_append_of_le_length h]
  have e3 : (out.take k).length = k := by simp; omega
  rw [e1, e2, List.append_assoc, List.set_append, if_neg (by omega), e3, Nat.sub_self]
  rfl
theorem ins_at2 {out : List Pr} {k j : Nat} {z p : Pr} (e : out.length = j) (h : k ≤ j) : ((out ++ [z]).take (k + 1) ++ ((out ++ [z]).drop k).take (j + 1 - k - 1)).set k p = out.take k ++ p :: out.drop k := by
  subst e
  exact ins_at h
theorem lt_via {p a c : Str} (h : p < a) (k : ¬ c < a) : p < c := by
  by_cases h1 : p < c
  · exact h1
  · by_cases h2 : c < p
    · exact absurd (str_trans h2 h) k
    · rw [str_eq h1 h2] at h
      exact absurd h k
theorem sorted_ins {out : List Pr} {k : Nat} {p : Pr} (hs : sortedN out) (ha : ∀ a, a ∈ out.take k → ¬ p.1 < a.1) (hb : ∀ b, b ∈ out.drop k → p.1 < b.1) : sortedN (out.take k ++ p :: out.drop k) := by
  unfold sortedN at *
  rw [← List.take_append_drop k out, List.pairwise_append] at hs
  rw [List.pairwise_append, List.pairwise_cons]
  refine ⟨hs.1, ⟨fun b h e => str_irrefl _ (str_trans (hb b h) e), hs.2.1⟩, fun a h b h2 => ?_⟩
  rcases List.mem_cons.1 h2 with rfl | h2
  · exact ha a h
  · exact hs.2.2 a h b h2
theorem head_le {out : List Pr} {k : Nat} {p : Pr} (hs : sortedN out) (hk : k < out.length) (h : ¬ p.1 < (out.getD k ([], [])).1) : ∀ a, a ∈ out.take (k + 1) → ¬ p.1 < a.1 := by
  intro a ha hp
  rw [getD_at hk] at h
  rw [List.take_succ_eq_append_getElem hk, List.mem_append] at ha
  rcases ha with ha | ha
  · unfold sortedN at hs
    obtain ⟨i, hi, rfl⟩ := List.mem_iff_getElem.1 ha
    simp at hi
    rw [List.pairwise_iff_getElem] at hs
    have := hs i k (by omega) hk (by omega)
    rw [List.getElem_take] at hp
    exact h (lt_via hp this)
  · rw [List.mem_singleton.1 ha] at hp
    exact h hp
theorem perm_ins {out l : List Pr} {k j : Nat} (hj : j < l.length) (hp : out.Perm (l.take j)) : (out.take k ++ l.getD j ([], []) :: out.drop k).Perm (l.take (j + 1)) := by
  rw [getD_at hj, List.take_succ_eq_append_getElem hj]
  refine List.perm_middle.trans ?_
  rw [List.take_append_drop]
  exact (List.Perm.cons _ hp).trans (List.perm_append_singleton _ _).symm

set_option maxRecDepth 100000 in
set_option maxHeartbeats 4000000 in
theorem refSorted_any (xa : Option Addr) (n c : Nat) (l : List Pr) (w : World) (hn : n ≤ 100000) (hx : Ps w xa n l) :
    Calls Tryz.prog 42 #[.slice xa n c] w fun e w' => ∃ v m, e = .returned v ∧ Own w' w.heap.size v m ∧ m.Perm l ∧ sortedN m ∧ Below w.heap.size w w' := by
  have HL : Hid (l.length = n) := hx.1
  obtain ⟨_, hcell⟩ := hx
  go_enter Tryz.func42, Tryz.ntmps42
  go_wp2_with fail
  go_loopw [4, 3] (fun i u wr => ∃ (j : Nat) (v : Value) (out : List Pr), j ≤ n ∧ i = .int .i64 j ∧ v = u ∧ Own wr w.heap.size v out ∧ Hid (out.Perm (l.take j)) ∧ Hid (sortedN out) ∧ Hid (out.length = j) ∧ Below w.heap.size w wr) (fun i _ _ => n - (intOf i).toNat)
  case atStart => exact ⟨0, _, [], by omega, rfl, rfl, Own.none _ _, List.Perm.refl _, List.Pairwise.nil, rfl, Below.refl _ _⟩
  case round =>
    obtain ⟨j, v, out, hj, rfl, rfl, ho, HP, HS, HLo, hb⟩ := hrel
    by_cases hlt : j < n
    · obtain ⟨b1, o1, rfl, h1⟩ := hcell (by omega)
      obtain ⟨c10, c11⟩ := h1 j hlt
      have m0 : ∀ W, Below w.heap.size w W → W.cell? ⟨b1, o1 + j * 2, none⟩ = some (tx (l.getD j ([], [])).1) := fun W hW => (hW.cell (p := ⟨b1, o1 + j * 2, none⟩) (World.block_lt_of_cell? _ _ c10)).trans c10
      have m1 : ∀ W, Below w.heap.size w W → W.cell? ⟨b1, o1 + j * 2 + 1, none⟩ = some (tx (l.getD j ([], [])).2) := fun W hW => (hW.cell (p := ⟨b1, o1 + j * 2 + 1, none⟩) (World.block_lt_of_cell? _ _ c11)).trans c11
      have HPI : Hid (∀ k, (out.take k ++ l.getD j ([], []) :: out.drop k).Perm (l.take (j + 1))) := fun k => perm_ins (by rw [HL.out]; exact hlt) HP.out
      have HSI : Hid (∀ k, (∀ a, a ∈ out.take k → ¬ (l.getD j ([], [])).1 < a.1) → (∀ b, b ∈ out.drop k → (l.getD j ([], [])).1 < b.1) → sortedN (out.take k ++ l.getD j ([], []) :: out.drop k)) := fun k ha hb => sorted_ins HS.out ha hb
      have HLI : Hid (∀ (p : Pr) k, k ≤ j → (out.take k ++ p :: out.drop k).length = j + 1) := fun p k hk => by have := HLo.out; simp; omega
      have HHL : Hid (∀ k, k < j → ¬ (l.getD j ([], [])).1 < (out.getD k ([], [])).1 → ∀ a, a ∈ out.take (k + 1) → ¬ (l.getD j ([], [])).1 < a.1) := fun k hk h => head_le HS.out (by rw [HLo.out]; exact hk) h
      clear h1 hcell c10 c11 HP HS
      generalize l.getD j ([], []) = p at *
      obtain ⟨p1, p2⟩ := p
      dsimp only at *
      obtain ⟨ao, cap, rfl, hps, hcap⟩ := own_slice6 ho HLo.out
      go_wp2_with fail
      generalize hwr : wr = w1 at *
      clear hwr
      go_loopw [5] (fun i wr => ∃ k : Nat, k ≤ j ∧ i = .int .i64 k ∧ Hid (∀ b, b ∈ out.drop k → p1 < b.1) ∧ Below w1.heap.size w1 wr) (fun i _ => (intOf i).toNat)
      case atStart => exact ⟨j, Nat.le_refl _, rfl, (fun b h => by rw [List.drop_of_length_le (by rw [HLo.out]; exact Nat.le_refl _)] at h; cases h), Below.refl _ _⟩
      case round =>
        obtain ⟨k, hk, rfl, HB, hb2⟩ := hrel
        have ho2 := ho.later hb2
        have B2 : Below w.heap.size w wr := hb.trans (hb2.mono hb.size)
        have q0 := m0 wr B2
        by_cases h0 : k = 0
        · have h0' : ¬ (0 : Int) < k := by omega
          have h0d : decide (0 < k) = false := decide_eq_false (by omega)
          have HP2 : Hid _ := HPI.out k
          have HS2 : Hid _ := HSI.out k (fun a ha => by rw [h0] at ha; cases ha) HB.out
          have HL2 : Hid _ := HLI.out (p1, p2) k hk
          clear HPI HSI HLI HHL HB h0
          go_wp2
          go_quiet (fail)
          have hwr : IntKind.i64.wrap ((k : Int) + 1) = (k : Int) + 1 := by rw [IntKind.wrap_i64]; omega
          have ho3 : Own (wr.drewN nq) w.heap.size (.slice ao j cap) out := ho2.later (below_drewN (Below.refl _ _) nq)
          have hb3 : Below w.heap.size w (wr.drewN nq) := below_drewN B2 nq
          clear ho2 B2 hps hcap
          generalize wr.drewN nq = W3 at *
          have ho4 := ho3.later (bal (Below.refl _ _) (.cells #[tx [], tx []] 44))
          have hb4 := bal hb3 (.cells #[tx [], tx []] 44)
          go_wp2_with (at_builtin; go_must (refine wp_app (w0 := w) rfl _ _ rfl w.heap.size _ out [([], [])] (some ⟨W3.heap.size, 0, none⟩) 1 1 rfl rfl ho4 (Ps.one W3 ([], [])) hb4 (Nat.le_refl _) ?hN ?_))
          case hN => rw [HLo.out]; omega
          intro v7 w7 ho7 hb7
          obtain ⟨g, cap7, rfl⟩ := own_some ho7 (by rw [List.length_append, HLo.out]; rfl : (out ++ [([], [])]).length = j + 1)
          clear ho3 ho4 hb3 hb4
          go_wp2_with fail
          have C0 : Below w7.heap.size w7 w7.drew := (Below.refl _ _).drew
          have O8 := ho7.later C0
          have hb8 : Below w.heap.size w w7.drew := hb7.trans (C0.mono hb7.size)
          clear ho7
          refine wp_region_noPanic ?_
          refine wp_region_held_drew (S := fun W => Below w.heap.size w W) (by kernel_rfl) ?_ (fun _ => ?_)
          · exact hb8
          generalize w7.drew = wd at *
          refine take_at 0 (some 36) (.slice (some ⟨g, 0, none⟩) (j + 1) cap7) rfl rfl (by kernel_rfl) (by kernel_rfl) (by kernel_rfl) (fun _ _ _ h => h) (by rfl) (fun W hSw => by go_simp) hb8 ?_
          simp only [Act.put, List.setIfInBounds_toArray, List.set_cons_zero, List.set_cons_succ]
          refine take_at 1 (some 37) (.int .i64 k) rfl rfl (by kernel_rfl) (by kernel_rfl) (by kernel_rfl) (fun _ _ _ h => h) (by rfl) (fun W hSw => by go_simp) hb8 ?_
          simp only [Act.put, List.setIfInBounds_toArray, List.set_cons_zero, List.set_cons_succ]
          refine take_at 2 (some 38) (.int .i64 ((k : Int) + 1)) rfl rfl (by kernel_rfl) (by kernel_rfl) (by kernel_rfl) (fun _ _ _ h => h) (by rfl) (fun W hSw => by go_simp) hb8 ?_
          simp only [Act.put, List.setIfInBounds_toArray, List.set_cons_zero, List.set_cons_succ]
          refine take_at 3 (some 39) (.slice (cutA (some ⟨g, 0, none⟩) cap7 (k + 1)) (j + 1 - (k + 1)) (cap7 - (k + 1))) rfl rfl (by kernel_rfl) (by kernel_rfl) (by kernel_rfl) (fun _ _ _ h => h) (by rfl) (fun W hSw => by have e3 := cut_back (some ⟨g, 0, none⟩) (j + 1) cap7 (k + 1) (by omega) W; rw [show (((k + 1 : Nat)) : Int) = (k : Int) + 1 by omega] at e3; go_simp) hb8 ?_
          simp only [Act.put, List.setIfInBounds_toArray, List.set_cons_zero, List.set_cons_succ]
          refine take_at 4 (some 40) (.slice (some ⟨g, 0, none⟩) (j + 1) cap7) rfl rfl (by kernel_rfl) (by kernel_rfl) (by kernel_rfl) (fun _ _ _ h => h) (by rfl) (fun W hSw => by go_simp) hb8 ?_
          simp only [Act.put, List.setIfInBounds_toArray, List.set_cons_zero, List.set_cons_succ]
          refine take_at 5 (some 41) (.int .i64 k) rfl rfl (by kernel_rfl) (by kernel_rfl) (by kernel_rfl) (fun _ _ _ h => h) (by rfl) (fun W hSw => by go_simp) hb8 ?_
          simp only [Act.put, List.setIfInBounds_toArray, List.set_cons_zero, List.set_cons_succ]
          refine take_at 6 (some 42) (.slice (cutA (some ⟨g, 0, none⟩) cap7 k) (j + 1 - k) (cap7 - k)) rfl rfl (by kernel_rfl) (by kernel_rfl) (by kernel_rfl) (fun _ _ _ h => h) (by rfl) (fun W hSw => by have e6 := cut_back (some ⟨g, 0, none⟩) (j + 1) cap7 k (by omega) W; go_simp) hb8 ?_
          simp only [Act.put, List.setIfInBounds_toArray, List.set_cons_zero, List.set_cons_succ]
          refine wpAnyH_ready (rs := [7]) (by kernel_rfl) (by simp) ?_
          refine AllReadyH.cons rfl (fun K hK => ?_) AllReadyH.nil
          refine step_copy2 (.tmp 39) (.tmp 42) (some 43) rfl rfl (by rfl) w.heap.size g (j + 1) cap7 k (out ++ [([], [])]) (by omega) rfl rfl O8 ?_
          intro w9 o9 hb9
          have B9 : Below w.heap.size w w9 := hb9 _ _ hb8 (World.ownsRow.lt O8 g rfl).1
          refine hK.out _ _ ?_ (fun _ => ?_)
          · exact B9
          clear hK K
          refine wpAnyH_done (by kernel_rfl) ?_ _
          refine NoPanic.normal ?_
          have hgb := (World.ownsRow.lt O8 g rfl).1
          have n0 := m0 w9 B9
          have n1 := m1 w9 B9
          have oP := own_put o9 k (p1, p2) (by omega)
          obtain ⟨s0, s1⟩ := own_cells o9 k (by omega)
          have z0 := own_frozen o9 (k * 2)
          have z1 := own_frozen o9 (k * 2 + 1)
          have BP : Below w.heap.size w ((w9.setCell ⟨g, k * 2, none⟩ (tx p1)).setCell ⟨g, k * 2 + 1, none⟩ (tx p2)) := (B9.setCell (p := ⟨g, k * 2, none⟩) hgb _).setCell (p := ⟨g, k * 2 + 1, none⟩) hgb _
          have eI := ins_at2 (z := (([], []) : Pr)) (p := (p1, p2)) (HLo.out : out.length = j) hk
          rw [eI] at oP
          clear O8 hb8 hb9 o9 hb7 m0 m1
          go_wp2
          go_roundw
          case rel => exact ⟨j + 1, _, _, by omega, by go_num, rfl, oP, HP2, HS2, HL2, BP⟩
          case measure => simp [intOf]; omega
        · obtain ⟨k', rfl⟩ : ∃ k', k = k' + 1 := ⟨k - 1, by omega⟩
          obtain ⟨g0, o0, rfl, h2⟩ := hps.2 (by omega)
          have q1 := ((hb2.cell (p := ⟨g0, o0 + k' * 2, none⟩) (World.block_lt_of_cell? _ _ (h2 k' (by omega)).1)).trans (h2 k' (by omega)).1)
          have h0d : decide ((0 : Int) < ((k' + 1 : Nat) : Int)) = true := decide_eq_true (by omega)
          have HD : Hid (out.drop k' = out.getD k' ([], []) :: out.drop (k' + 1)) := getD_drop (by rw [HLo.out]; omega)
          by_cases hq : p1 < (out.getD k' ([], [])).1
          · have HB2 : Hid (∀ b, b ∈ out.drop k' → p1 < b.1) := fun b hbm => by
              rw [HD.out] at hbm
              rcases List.mem_cons.1 hbm with rfl | h
              · exact hq
              · exact HB.out b h
            have f1 : Op.bytesLess (out.getD k' ([], [])).1 p1 = false := by rw [less_eq]; exact decide_eq_false (fun e => str_irrefl _ (str_trans hq e))
            have f2 : ((out.getD k' ([], [])).1 == p1) = false := by rw [beq_eq_false_iff_ne]; intro e; rw [e] at hq; exact str_irrefl _ hq
            clear HPI HSI HLI HHL HB HD h0 h2 hq
            generalize out.getD k' ([], []) = y at *
            go_wp2
            go_quiet (fail)
            go_wp2
            go_roundw
            case rel => exact ⟨k', by omega, by go_num, HB2, below_drewN hb2 _⟩
            case measure => simp [intOf]
          · have HP2 : Hid _ := HPI.out (k' + 1)
            have HS2 : Hid _ := HSI.out (k' + 1) (HHL.out k' (by omega) hq) HB.out
            have HL2 : Hid _ := HLI.out (p1, p2) (k' + 1) hk
            clear HPI HSI HLI HHL HB HD h0 h2
            by_cases hy : (out.getD k' ([], [])).1 < p1
            · have f1 : Op.bytesLess (out.getD k' ([], [])).1 p1 = true := by rw [less_eq]; exact decide_eq_true hy
              clear hq hy
              generalize out.getD k' ([], []) = y at *
              go_wp2
              go_quiet (fail)
              clear q1 f1 h0d
              generalize hkk : some (⟨g0, o0, none⟩ : Addr) = ao at *
              clear hkk
              obtain ⟨k, hkk⟩ : ∃ k, k = k' + 1 := ⟨_, rfl⟩
              rw [← hkk] at hk HP2 HS2 HL2 ⊢
              clear hkk
              have hwr : IntKind.i64.wrap ((k : Int) + 1) = (k : Int) + 1 := by rw [IntKind.wrap_i64]; omega
              have ho3 : Own (wr.drewN nq) w.heap.size (.slice ao j cap) out := ho2.later (below_drewN (Below.refl _ _) nq)
              have hb3 : Below w.heap.size w (wr.drewN nq) := below_drewN B2 nq
              clear ho2 B2 hps hcap
              generalize wr.drewN nq = W3 at *
              have ho4 := ho3.later (bal (Below.refl _ _) (.cells #[tx [], tx []] 44))
              have hb4 := bal hb3 (.cells #[tx [], tx []] 44)
              go_wp2_with (at_builtin; go_must (refine wp_app (w0 := w) rfl _ _ rfl w.heap.size _ out [([], [])] (some ⟨W3.heap.size, 0, none⟩) 1 1 rfl rfl ho4 (Ps.one W3 ([], [])) hb4 (Nat.le_refl _) ?hN ?_))
              case hN => rw [HLo.out]; omega
              intro v7 w7 ho7 hb7
              obtain ⟨g, cap7, rfl⟩ := own_some ho7 (by rw [List.length_append, HLo.out]; rfl : (out ++ [([], [])]).length = j + 1)
              clear ho3 ho4 hb3 hb4
              go_wp2_with fail
              have C0 : Below w7.heap.size w7 w7.drew := (Below.refl _ _).drew
              have O8 := ho7.later C0
              have hb8 : Below w.heap.size w w7.drew := hb7.trans (C0.mono hb7.size)
              clear ho7
              refine wp_region_noPanic ?_
              refine wp_region_held_drew (S := fun W => Below w.heap.size w W) (by kernel_rfl) ?_ (fun _ => ?_)
              · exact hb8
              generalize w7.drew = wd at *
              refine take_at 0 (some 36) (.slice (some ⟨g, 0, none⟩) (j + 1) cap7) rfl rfl (by kernel_rfl) (by kernel_rfl) (by kernel_rfl) (fun _ _ _ h => h) (by rfl) (fun W hSw => by go_simp) hb8 ?_
              simp only [Act.put, List.setIfInBounds_toArray, List.set_cons_zero, List.set_cons_succ]
              refine take_at 1 (some 37) (.int .i64 k) rfl rfl (by kernel_rfl) (by kernel_rfl) (by kernel_rfl) (fun _ _ _ h => h) (by rfl) (fun W hSw => by go_simp) hb8 ?_
              simp only [Act.put, List.setIfInBounds_toArray, List.set_cons_zero, List.set_cons_succ]
              refine take_at 2 (some 38) (.int .i64 ((k : Int) + 1)) rfl rfl (by kernel_rfl) (by kernel_rfl) (by kernel_rfl) (fun _ _ _ h => h) (by rfl) (fun W hSw => by go_simp) hb8 ?_
              simp only [Act.put, List.setIfInBounds_toArray, List.set_cons_zero, List.set_cons_succ]
              refine take_at 3 (some 39) (.slice (cutA (some ⟨g, 0, none⟩) cap7 (k + 1)) (j + 1 - (k + 1)) (cap7 - (k + 1))) rfl rfl (by kernel_rfl) (by kernel_rfl) (by kernel_rfl) (fun _ _ _ h => h) (by rfl) (fun W hSw => by have e3 := cut_back (some ⟨g, 0, none⟩) (j + 1) cap7 (k + 1) (by omega) W; rw [show (((k + 1 : Nat)) : Int) = (k : Int) + 1 by omega] at e3; go_simp) hb8 ?_
              simp only [Act.put, List.setIfInBounds_toArray, List.set_cons_zero, List.set_cons_succ]
              refine take_at 4 (some 40) (.slice (some ⟨g, 0, none⟩) (j + 1) cap7) rfl rfl (by kernel_rfl) (by kernel_rfl) (by kernel_rfl) (fun _ _ _ h => h) (by rfl) (fun W hSw => by go_simp) hb8 ?_
              simp only [Act.put, List.setIfInBounds_toArray, List.set_cons_zero, List.set_cons_succ]
              refine take_at 5 (some 41) (.int .i64 k) rfl rfl (by kernel_rfl) (by kernel_rfl) (by kernel_rfl) (fun _ _ _ h => h) (by rfl) (fun W hSw => by go_simp) hb8 ?_
              simp only [Act.put, List.setIfInBounds_toArray, List.set_cons_zero, List.set_cons_succ]
              refine take_at 6 (some 42) (.slice (cutA (some ⟨g, 0, none⟩) cap7 k) (j + 1 - k) (cap7 - k)) rfl rfl (by kernel_rfl) (by kernel_rfl) (by kernel_rfl) (fun _ _ _ h => h) (by rfl) (fun W hSw => by have e6 := cut_back (some ⟨g, 0, none⟩) (j + 1) cap7 k (by omega) W; go_simp) hb8 ?_
              simp only [Act.put, List.setIfInBounds_toArray, List.set_cons_zero, List.set_cons_succ]
              refine wpAnyH_ready (rs := [7]) (by kernel_rfl) (by simp) ?_
              refine AllReadyH.cons rfl (fun K hK => ?_) AllReadyH.nil
              refine step_copy2 (.tmp 39) (.tmp 42) (some 43) rfl rfl (by rfl) w.heap.size g (j + 1) cap7 k (out ++ [([], [])]) (by omega) rfl rfl O8 ?_
              intro w9 o9 hb9
              have B9 : Below w.heap.size w w9 := hb9 _ _ hb8 (World.ownsRow.lt O8 g rfl).1
              refine hK.out _ _ ?_ (fun _ => ?_)
              · exact B9
              clear hK K
              refine wpAnyH_done (by kernel_rfl) ?_ _
              refine NoPanic.normal ?_
              have hgb := (World.ownsRow.lt O8 g rfl).1
              have n0 := m0 w9 B9
              have n1 := m1 w9 B9
              have oP := own_put o9 k (p1, p2) (by omega)
              obtain ⟨s0, s1⟩ := own_cells o9 k (by omega)
              have z0 := own_frozen o9 (k * 2)
              have z1 := own_frozen o9 (k * 2 + 1)
              have BP : Below w.heap.size w ((w9.setCell ⟨g, k * 2, none⟩ (tx p1)).setCell ⟨g, k * 2 + 1, none⟩ (tx p2)) := (B9.setCell (p := ⟨g, k * 2, none⟩) hgb _).setCell (p := ⟨g, k * 2 + 1, none⟩) hgb _
              have eI := ins_at2 (z := (([], []) : Pr)) (p := (p1, p2)) (HLo.out : out.length = j) hk
              rw [eI] at oP
              clear O8 hb8 hb9 o9 hb7 m0 m1
              go_wp2
              go_roundw
              case rel => exact ⟨j + 1, _, _, by omega, by go_num, rfl, oP, HP2, HS2, HL2, BP⟩
              case measure => simp [intOf]; omega
            · have f1 : Op.bytesLess (out.getD k' ([], [])).1 p1 = false := by rw [less_eq]; exact decide_eq_false hy
              have f2 : ((out.getD k' ([], [])).1 == p1) = true := by rw [beq_iff_eq]; exact str_eq hy hq
              clear hq hy
              generalize out.getD k' ([], []) = y at *
              go_wp2
              go_quiet (fail)
              clear q1 f1 f2 h0d
              generalize hkk : some (⟨g0, o0, none⟩ : Addr) = ao at *
              clear hkk
              obtain ⟨k, hkk⟩ : ∃ k, k = k' + 1 := ⟨_, rfl⟩
              rw [← hkk] at hk HP2 HS2 HL2 ⊢
              clear hkk
              have hwr : IntKind.i64.wrap ((k : Int) + 1) = (k : Int) + 1 := by rw [IntKind.wrap_i64]; omega
              have ho3 : Own (wr.drewN nq) w.heap.size (.slice ao j cap) out := ho2.later (below_drewN (Below.refl _ _) nq)
              have hb3 : Below w.heap.size w (wr.drewN nq) := below_drewN B2 nq
              clear ho2 B2 hps hcap
              generalize wr.drewN nq = W3 at *
              have ho4 := ho3.later (bal (Below.refl _ _) (.cells #[tx [], tx []] 44))
              have hb4 := bal hb3 (.cells #[tx [], tx []] 44)
              go_wp2_with (at_builtin; go_must (refine wp_app (w0 := w) rfl _ _ rfl w.heap.size _ out [([], [])] (some ⟨W3.heap.size, 0, none⟩) 1 1 rfl rfl ho4 (Ps.one W3 ([], [])) hb4 (Nat.le_refl _) ?hN ?_))
              case hN => rw [HLo.out]; omega
              intro v7 w7 ho7 hb7
              obtain ⟨g, cap7, rfl⟩ := own_some ho7 (by rw [List.length_append, HLo.out]; rfl : (out ++ [([], [])]).length = j + 1)
              clear ho3 ho4 hb3 hb4
              go_wp2_with fail
              have C0 : Below w7.heap.size w7 w7.drew := (Below.refl _ _).drew
              have O8 := ho7.later C0
              have hb8 : Below w.heap.size w w7.drew := hb7.trans (C0.mono hb7.size)
              clear ho7
              refine wp_region_noPanic ?_
              refine wp_region_held_drew (S := fun W => Below w.heap.size w W) (by kernel_rfl) ?_ (fun _ => ?_)
              · exact hb8
              generalize w7.drew = wd at *
              refine take_at 0 (some 36) (.slice (some ⟨g, 0, none⟩) (j + 1) cap7) rfl rfl (by kernel_rfl) (by kernel_rfl) (by kernel_rfl) (fun _ _ _ h => h) (by rfl) (fun W hSw => by go_simp) hb8 ?_
              simp only [Act.put, List.setIfInBounds_toArray, List.set_cons_zero, List.set_cons_succ]
              refine take_at 1 (some 37) (.int .i64 k) rfl rfl (by kernel_rfl) (by kernel_rfl) (by kernel_rfl) (fun _ _ _ h => h) (by rfl) (fun W hSw => by go_simp) hb8 ?_
              simp only [Act.put, List.setIfInBounds_toArray, List.set_cons_zero, List.set_cons_succ]
              refine take_at 2 (some 38) (.int .i64 ((k : Int) + 1)) rfl rfl (by kernel_rfl) (by kernel_rfl) (by kernel_rfl) (fun _ _ _ h => h) (by rfl) (fun W hSw => by go_simp) hb8 ?_
              simp only [Act.put, List.setIfInBounds_toArray, List.set_cons_zero, List.set_cons_succ]
              refine take_at 3 (some 39) (.slice (cutA (some ⟨g, 0, none⟩) cap7 (k + 1)) (j + 1 - (k + 1)) (cap7 - (k + 1))) rfl rfl (by kernel_rfl) (by kernel_rfl) (by kernel_rfl) (fun _ _ _ h => h) (by rfl) (fun W hSw => by have e3 := cut_back (some ⟨g, 0, none⟩) (j + 1) cap7 (k + 1) (by omega) W; rw [show (((k + 1 : Nat)) : Int) = (k : Int) + 1 by omega] at e3; go_simp) hb8 ?_
              simp only [Act.put, List.setIfInBounds_toArray, List.set_cons_zero, List.set_cons_succ]
              refine take_at 4 (some 40) (.slice (some ⟨g, 0, none⟩) (j + 1) cap7) rfl rfl (by kernel_rfl) (by kernel_rfl) (by kernel_rfl) (fun _ _ _ h => h) (by rfl) (fun W hSw => by go_simp) hb8 ?_
              simp only [Act.put, List.setIfInBounds_toArray, List.set_cons_zero, List.set_cons_succ]
              refine take_at 5 (some 41) (.int .i64 k) rfl rfl (by kernel_rfl) (by kernel_rfl) (by kernel_rfl) (fun _ _ _ h => h) (by rfl) (fun W hSw => by go_simp) hb8 ?_
              simp only [Act.put, List.setIfInBounds_toArray, List.set_cons_zero, List.set_cons_succ]
              refine take_at 6 (some 42) (.slice (cutA (some ⟨g, 0, none⟩) cap7 k) (j + 1 - k) (cap7 - k)) rfl rfl (by kernel_rfl) (by kernel_rfl) (by kernel_rfl) (fun _ _ _ h => h) (by rfl) (fun W hSw => by have e6 := cut_back (some ⟨g, 0, none⟩) (j + 1) cap7 k (by omega) W; go_simp) hb8 ?_
              simp only [Act.put, List.setIfInBounds_toArray, List.set_cons_zero, List.set_cons_succ]
              refine wpAnyH_ready (rs := [7]) (by kernel_rfl) (by simp) ?_
              refine AllReadyH.cons rfl (fun K hK => ?_) AllReadyH.nil
              refine step_copy2 (.tmp 39) (.tmp 42) (some 43) rfl rfl (by rfl) w.heap.size g (j + 1) cap7 k (out ++ [([], [])]) (by omega) rfl rfl O8 ?_
              intro w9 o9 hb9
              have B9 : Below w.heap.size w w9 := hb9 _ _ hb8 (World.ownsRow.lt O8 g rfl).1
              refine hK.out _ _ ?_ (fun _ => ?_)
              · exact B9
              clear hK K
              refine wpAnyH_done (by kernel_rfl) ?_ _
              refine NoPanic.normal ?_
              have hgb := (World.ownsRow.lt O8 g rfl).1
              have n0 := m0 w9 B9
              have n1 := m1 w9 B9
              have oP := own_put o9 k (p1, p2) (by omega)
              obtain ⟨s0, s1⟩ := own_cells o9 k (by omega)
              have z0 := own_frozen o9 (k * 2)
              have z1 := own_frozen o9 (k * 2 + 1)
              have BP : Below w.heap.size w ((w9.setCell ⟨g, k * 2, none⟩ (tx p1)).setCell ⟨g, k * 2 + 1, none⟩ (tx p2)) := (B9.setCell (p := ⟨g, k * 2, none⟩) hgb _).setCell (p := ⟨g, k * 2 + 1, none⟩) hgb _
              have eI := ins_at2 (z := (([], []) : Pr)) (p := (p1, p2)) (HLo.out : out.length = j) hk
              rw [eI] at oP
              clear O8 hb8 hb9 o9 hb7 m0 m1
              go_wp2
              go_roundw
              case rel => exact ⟨j + 1, _, _, by omega, by go_num, rfl, oP, HP2, HS2, HL2, BP⟩
              case measure => simp [intOf]; omega
    · have HR : Hid (l.take j = l) := by show _ = _; rw [List.take_of_length_le (by rw [HL.out]; omega)]
      have HPP : Hid (out.Perm l) := by have := HP.out; rw [HR.out] at this; exact this
      clear HR HP hcell
      go_wp2_with fail
      go_ret
      exact ⟨_, out, rfl, ho, HPP.out, HS.out, hb⟩
end Go.Proofs.YtideieolgjhbiaaGreatDoor
