/-
  PROVED: BitsJoin in its second form: for every pieces and every place, where what comes in is of bulk at most 1048576, the law of the program at this commit answers true and leaves its input as it was: pieces joined are as long as all, each at its place; joined in two goes they are the same.
-/
import Derived.Test.YteajcgodfbaeiaaJoins
namespace Go.Proofs.Yteajcgodfbaeiaa.bitsJoin
open Go.ChangeShapes Go.WideShapes Go.ChangeAt Go.RowKit Go.Deep
set_option linter.unusedVariables false

theorem walk_long (xa : Option Addr) (n xc : Nat) (t : Int) (w : World) (hc : n ≤ xc) (hm : xc ≤ maxLen) (h : 20 < n) :
    Calls Try.prog 5 #[.slice xa n xc, .int .u8 t] w fun e w' => e = .returned (.bool true) ∧ Below w.heap.size w w' := by
  unfold maxLen at hm
  have h' : (20 : Int) < (n : Int) := by omega
  go_enter Try.func5, Try.ntmps5
  go_wp2_with fail
  refine (known_any _).mono ?_
  rintro e w1 ⟨rfl, hbel1⟩
  go_wp2
  go_ret
  exact ⟨rfl, hbel1⟩

theorem bulk_len {H : Type} : ∀ l : List (DataW H), l.length ≤ Rows.uptoBulkAll l
  | [] => by simp [Rows.uptoBulkAll]
  | d :: r => by
    have h := bulk_len r
    have h1 : 1 ≤ Rows.uptoBulk d := by
      cases d with
      | lit l => cases l <;> simp [Rows.uptoBulk]
      | nil => simp [Rows.uptoBulk]
      | ptr d => simp [Rows.uptoBulk]
      | slice elems spare => simp [Rows.uptoBulk]
      | agg parts => simp [Rows.uptoBulk]
      | iface t d => simp [Rows.uptoBulk]
      | map entries => simp [Rows.uptoBulk]
      | held h => simp [Rows.uptoBulk]
    simp only [Rows.uptoBulkAll, List.length_cons]
    omega

theorem bulk_sum {H : Type} (g : Nat → List UInt8) (D : Nat → DataW H) : ∀ l : List Nat, (∀ i, i ∈ l → (g i).length + 1 ≤ Rows.uptoBulk (D i)) → (l.map g).flatten.length ≤ Rows.uptoBulkAll (l.map D)
  | [], _ => by simp [Rows.uptoBulkAll]
  | i :: l, h => by
    have h1 := bulk_sum g D l (fun j hj => h j (List.mem_cons_of_mem _ hj))
    have h2 := h i (List.mem_cons_self ..)
    simp only [List.map_cons, List.flatten_cons, List.length_append, Rows.uptoBulkAll]
    omega

/-- One piece, out of its reading. -/
theorem piece {H : Type} {enc : TypeId × Value → H} {W : World} {n : Nat} {v : Value} {d : DataW H} {pl : List MemPlace} (h : DataW.trod enc Try.prog W 0 (fun _ => true) true n 22 [v] = some (d, pl)) :
    ∃ t : Option Addr × Nat × Nat × List UInt8, v = .slice t.1 t.2.1 t.2.2.1 ∧ Bs W t.1 t.2.1 t.2.2.1 t.2.2.2 ∧ t.2.2.2.length + 1 ≤ Rows.uptoBulk d := by
  rcases open_ints Try.underlying22 Try.underlying5 (by kernel_rfl) h with ⟨hcs, hx⟩ | ⟨x, len, cap, zs, hcs, _, hl, hm, hz, hx, hcell, hwz⟩
  · simp at hcs hx
    subst hcs
    obtain ⟨rfl, _⟩ := hx
    exact ⟨(none, 0, 0, []), rfl, Bs.nil W, by simp [Rows.uptoBulk]⟩
  · simp at hcs hx
    subst hcs
    obtain ⟨rfl, _⟩ := hx
    have hz' : zs.length = cap := by simpa using hz
    have hb : ∀ j, j < cap → 0 ≤ zs.getD j 0 ∧ zs.getD j 0 ≤ 255 := fun j hj => by
      have hmem : zs.getD j 0 ∈ zs := by
        rw [List.getD_eq_getElem?_getD, List.getElem?_eq_getElem (show j < zs.length by omega)]
        exact List.getElem_mem _
      simpa [Lit.wf, IntKind.min, IntKind.max, IntKind.signed, IntKind.bits] using hwz _ hmem
    refine ⟨(some x, len, cap, (zs.take len).map fun z => UInt8.ofNat z.toNat), rfl, ⟨by simp; omega, hl, hm, fun hp => ?_⟩, ?_⟩
    · have hp' : 0 < cap := hp
      obtain ⟨b, off, spot⟩ := x
      have hc := hcell 0 (by omega)
      have hspot : spot = none := by simpa [Addr.add] using World.cell?_spot hc
      subst hspot
      refine ⟨b, off, rfl, fun j hj => ?_⟩
      have hjl : j < len := hj
      have h1 := hcell j (by omega)
      rw [Addr.add_lit] at h1
      have h2 := hb j (by omega)
      have e : (((zs.take len).map fun z => UInt8.ofNat z.toNat).getD j 0).toNat = (zs.getD j 0).toNat := by
        have : ((zs.take len).map fun z => UInt8.ofNat z.toNat).getD j 0 = UInt8.ofNat (zs.getD j 0).toNat := by
          have hj' : j < len := hj
          simp [List.getD, List.getElem?_map, hj', List.getElem?_eq_getElem (show j < zs.length by omega)]
        rw [this, UInt8.toNat_ofNat']
        exact Nat.mod_eq_of_lt (by omega)
      rw [h1, e, Int.toNat_of_nonneg h2.1]
    · have h3 := bulk_len (lits (H := H) .u8 (zs.take len))
      have h4 : (lits (H := H) .u8 (zs.take len)).length = (zs.take len).length := by simp [lits]
      simp only [Rows.uptoBulk, List.length_map]
      omega

theorem cells22 : Try.prog.cellsOf 22 = 1 := by kernel_rfl

theorem contract (H : Type) (enc : TypeId × Value → H) (W : World) (base : Nat) (args : Array Value) (ds gs : List (DataW H)) (before : List MemPlace)
    (hval : ∀ (j : Nat) t v, Try.f5.params[j]? = some t → args[j]? = some v → Value.okWide Try.prog W .any base t v)
    (hW : DataW.Whole enc Try.prog Try.f5.params.toList Rows.bitsJoinSpec.vars false W args.toList ds gs before) (hk : Rows.uptoSmall H (ds ++ gs) = true) :
    Calls Try.prog 5 args W fun e W' => ∃ v, e = .returned v ∧ Rows.bitsJoinSpec.post enc Try.prog Try.f5 false true false false W args v W' := by
  have hW' := hW
  obtain ⟨p, q, hA0, hV, rfl, hfz, hnd⟩ := hW
  have hA : DataW.TrodAll enc Try.prog W 0 (fun _ => true) true Try.f5.params.toList args.toList ds p := hA0
  rw [Try.params5] at hA hval
  obtain ⟨v0, vs0, d0, ds0, p0, q0, hargs, rfl, rfl, h0, r0⟩ := trodAll_cons hA
  obtain ⟨v1, vs1, d1, ds1, p1, q1, rfl, rfl, rfl, h1, r1⟩ := trodAll_cons r0
  obtain ⟨rfl, rfl, rfl⟩ := trodAll_nil r1
  obtain rfl : args = #[v0, v1] := by cases args; simp_all
  obtain ⟨rfl, rfl⟩ := trodVars_none hV
  obtain ⟨xa, len0, cap0, rfl⟩ := okWide_slice Try.underlying40 (hval 0 40 v0 rfl rfl)
  have k0 := h0
  have lt0 : ∀ x ∈ p0, x.block < W.heap.size := by obtain ⟨m, hm⟩ := k0; exact DataW.trod_lt m _ _ _ hm
  obtain ⟨a1, rfl, rfl, rfl, w1⟩ := open_int Try.underlying5 (hval 1 5 v1 rfl rfl) h1
  have hbulk : Rows.uptoBulkAll ([d0, DataW.lit (.int .u8 a1)] ++ []) ≤ 1048576 := of_decide_eq_true hk
  simp only [List.append_nil, Rows.uptoBulkAll] at hbulk
  have hx : 0 ≤ a1 ∧ a1 ≤ 255 := by simpa [Lit.wf, IntKind.min, IntKind.max, IntKind.signed, IntKind.bits] using w1
  obtain ⟨t, rfl⟩ := Int.eq_ofNat_of_zero_le hx.1
  obtain ⟨hl0, hm0, ls, hss, hfl⟩ : len0 ≤ cap0 ∧ cap0 ≤ maxLen ∧ ∃ ls, Bss W xa len0 ls ∧ ls.flatten.length ≤ 1048576 := by
    obtain ⟨fuel, hf⟩ := h0
    rcases open_slice1 Try.underlying40 cells22 hf with ⟨hcs, hx⟩ | ⟨a, len, cap, m, n, V, D, Pl, hcs, _, hl, hm, hmm, hx, hel⟩
    · simp [Value.cells] at hcs
      obtain ⟨rfl, rfl, rfl⟩ := hcs
      exact ⟨by omega, by unfold maxLen; omega, [], ⟨rfl, fun h => by omega⟩, by simp⟩
    · simp [Value.cells] at hcs
      obtain ⟨rfl, rfl, rfl⟩ := hcs
      have hm' : m = cap0 := by simpa using hmm
      subst hm'
      obtain ⟨f, hfp⟩ := choose_lt (α := Option Addr × Nat × Nat × List UInt8) (n := len0) (p := fun i t => V i = .slice t.1 t.2.1 t.2.2.1 ∧ Bs W t.1 t.2.1 t.2.2.1 t.2.2.2 ∧ t.2.2.2.length + 1 ≤ Rows.uptoBulk (D i)) (fun i hi => piece (hel i (by omega)).2)
      refine ⟨hl, hm, (List.range len0).map (fun i => (f i).2.2.2), ⟨by simp, fun hp => ?_⟩, ?_⟩
      · obtain ⟨b, off, spot⟩ := a
        have hc := (hel 0 (by omega)).1
        have hspot : spot = none := by simpa [Addr.add] using World.cell?_spot hc
        subst hspot
        refine ⟨b, off, rfl, fun j hj => ?_⟩
        obtain ⟨e1, e2, _⟩ := hfp j hj
        have hcj := (hel j (by omega)).1
        rw [Addr.add_lit, e1] at hcj
        have e : ((List.range len0).map (fun i => (f i).2.2.2)).getD j [] = (f j).2.2.2 := by simp [List.getD, hj]
        rw [e]
        exact ⟨_, _, _, hcj, e2⟩
      · have h3 := bulk_sum (fun i => (f i).2.2.2) D (List.range len0) (fun i hi => (hfp i (by simpa using hi)).2.2)
        simp only [Prod.mk.injEq] at hx
        obtain ⟨rfl, _⟩ := hx
        simp only [Rows.uptoBulk] at hbulk
        omega
  clear hA0
  have hwalk : Calls Try.prog 5 #[.slice xa len0 cap0, .int .u8 (t : Int)] W fun e w' => e = .returned (.bool true) ∧ Below W.heap.size W w' := by
    by_cases h20 : 20 < len0
    · exact walk_long xa len0 cap0 t W hl0 hm0 h20
    · exact walk_in xa len0 cap0 t ls W hss (by omega) hl0 hfl (by omega)
  refine hwalk.mono fun e W' ⟨he, bel⟩ => ?_
  subst he
  exact ⟨_, rfl, _, _, _, [], _, [], hW', trodAll_mk1 (shut_bool Try.underlying4 _), (trodAll_cons_mk (Below.trod laidOut (by kernel_rfl) (of_decide_eq_true (by kernel_rfl)) k0 bel lt0) (trodAll_cons_mk (shut_int Try.underlying5 w1) trodAll_mk0)), rfl, bel.frame _, fun h => by cases h⟩

set_option maxRecDepth 100000 in
theorem lifted (os : Os) (started : os.Started) (H : Type) (enc : TypeId × Value → H) (F : Stop.Interp) :
    ReturnsInHanded {} Try.checked os 5 .any ((Rows.OpenSpec.upto Rows.bitsJoinSpec).pre6 enc Try.prog Try.f5 Rows.bitsJoinUptoRow.domain false) (((Rows.OpenSpec.upto Rows.bitsJoinSpec).at F).post enc Try.prog Try.f5 false true false false) := by
  refine returnsInHanded_of_cond (C := Try.checked) (s := Rows.OpenSpec.upto Rows.bitsJoinSpec) (k := Rows.uptoSmall) rfl own started (by kernel_rfl) Try.func5
    (OpenSpec.witness (enc := enc) (C := Try.checked) (s := Rows.OpenSpec.upto Rows.bitsJoinSpec) (k := Rows.uptoSmall) rfl false ⟨#[], #[.slice none 0 0, .int .u8 0], []⟩ 8 (by kernel_rfl) (by kernel_rfl) (by kernel_rfl)
      (x := ([.nil, .lit (.int .u8 0)], [], [])) (by kernel_rfl) rfl (by kernel_rfl)) ?_
  intro W base args ds gs before hval hW _ hk _
  exact contract H enc W base args ds gs before hval hW hk

theorem proved : Rows.BitsJoinUptoSaid :=
  OpenClaim.holds_of_cond 5 Try.f5 rfl rfl rfl rfl rfl rfl rfl ⟨rfl, rfl, rfl, rfl, rfl⟩ rfl rfl rfl rfl rfl (by kernel_rfl) Try.func5 (by kernel_rfl)
    (of_decide_eq_true (by kernel_rfl)) (by unfold Func.isWrapper; first | (rw [if_pos (by decide +kernel)]; kernel_rfl) | (rw [if_neg (by decide +kernel)]; exact ⟨rfl, rfl⟩))
    (fun os started H enc _ F => lifted os started H enc F)
#print axioms proved
end Go.Proofs.Yteajcgodfbaeiaa.bitsJoin
