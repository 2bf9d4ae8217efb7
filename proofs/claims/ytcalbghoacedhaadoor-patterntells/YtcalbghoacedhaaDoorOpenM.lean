/- What is handed in: slices of matchers out of their readings; how long a text can be. -/
import Derived.Test.YtcalbghoacedhaaDoorOpen
namespace Go.Proofs.YtcalbghoacedhaaDoor
open Go.ChangeShapes Go.WideShapes Go.ChangeAt Go.RowKit Go.Deep

theorem mats_of {H : Type} {enc : TypeId × Value → H} {W : World} {xa : Option Addr} {len cap : Nat} {x : DataW H × List MemPlace}
    (h : ∃ fuel, DataW.trod enc Tryd.prog W 0 (fun _ => true) true fuel 22 (Value.slice xa len cap).cells.toList = some x) :
    ∃ l, Ms W xa len l ∧ FitM l ∧ len ≤ 9223372036854775807 ∧ len ≤ cap := by
  obtain ⟨fuel, hf⟩ := h
  rcases open_slice Tryd.underlying22 hf with ⟨hcs, _⟩ | ⟨a, len', cap', m, n, D, Pl, hcs, _, hl, hm, hmm, _, hel⟩
  · simp [Value.cells] at hcs
    obtain ⟨rfl, rfl, rfl⟩ := hcs
    exact ⟨[], ⟨rfl, fun h => by omega⟩, (by intro x hx; cases hx), by omega, by omega⟩
  · simp [Value.cells] at hcs
    obtain ⟨rfl, rfl, rfl⟩ := hcs
    have hm' : m = cap := by simpa using hmm
    subst hm'
    have ce : Tryd.prog.cellsOf 26 = 3 := by kernel_rfl
    obtain ⟨f, hfp⟩ := @choose_lt Mat ⟨mat0⟩ len (fun i t => W.cell? (a.add (i * 3)) = some (tx t.name) ∧ W.cell? (a.add (i * 3 + 1)) = some (.int .i64 t.kind) ∧ W.cell? (a.add (i * 3 + 2)) = some (tx t.text) ∧ Big t.name ∧ Big t.text) (fun i hi => by
      obtain ⟨cs', h1, h2⟩ := hel i (by omega)
      rw [ce] at h1
      obtain ⟨_, hlen, hcell⟩ := World.cells?_some h1
      obtain ⟨xs, k, _, _, _, hxl, hfs⟩ := DataW.trod_struct Tryd.underlying26 h2
      match xs, hxl, cs', hlen with
      | [y0, y1, y2], _, [v0, v1, v2], _ =>
        have g0 := hfs 0 _ rfl
        have g1 := hfs 1 _ rfl
        have g2 := hfs 2 _ rfl
        have e0 := hcell 0 (by omega)
        have e1 := hcell 1 (by omega)
        have e2 := hcell 2 (by omega)
        rw [add_add] at e0 e1 e2
        have k0 : Tryd.prog.cellsOf 9 = 1 := by kernel_rfl
        have k1 : Tryd.prog.cellsOf 3 = 1 := by kernel_rfl
        simp [k0, k1] at g0 g1 g2
        obtain ⟨s0, z0, _, b0⟩ := DataW.trod_string Tryd.underlying9 g0
        obtain ⟨n1, z1, _, _⟩ := DataW.trod_int Tryd.underlying3 g1
        obtain ⟨s2, z2, _, b2⟩ := DataW.trod_string Tryd.underlying9 g2
        obtain ⟨l0, q0, n0⟩ := tx_of s0
        obtain ⟨l2, q2, n2⟩ := tx_of s2
        unfold maxLen at b0 b2
        simp at z0 z1 z2
        subst z0 z1 z2
        refine ⟨⟨l0, n1, l2⟩, ?_, ?_, ?_, ?_, ?_⟩
        · show _ = some (Value.string ⟨l0.toArray⟩); rw [q0]; simpa using e0
        · simpa using e1
        · show _ = some (Value.string ⟨l2.toArray⟩); rw [q2]; simpa using e2
        · show l0.length ≤ _; omega
        · show l2.length ≤ _; omega)
    refine ⟨(List.range len).map f, ⟨by simp, fun hp => ?_⟩, ?_, by unfold maxLen at hm; omega, hl⟩
    · obtain ⟨b, off, spot⟩ := a
      have hc := (hfp 0 (by omega)).1
      have hspot : spot = none := by simpa [Addr.add] using World.cell?_spot hc
      subst hspot
      refine ⟨b, off, rfl, fun j hj => ?_⟩
      obtain ⟨e1, e2, e3, _⟩ := hfp j hj
      rw [Addr.add_lit] at e1 e2 e3
      have e : ((List.range len).map f).getD j mat0 = f j := by simp [List.getD, hj]
      rw [e]
      exact ⟨e1, e2, e3⟩
    · intro x hx
      obtain ⟨i, hi, rfl⟩ := List.mem_map.1 hx
      exact (hfp i (List.mem_range.1 hi)).2.2.2

/-! ### How long a text can be -/
def Room (s : Str) : Prop := s.length ≤ 140737488351232
theorem mem_all {H : Type} {P : Program} {e : TypeId} {ds : List (DataW H)} {d : DataW H} (hd : d ∈ ds) {n : Nat} (hn : n ∈ d.weights P e) : n ∈ DataW.weightsAll P e ds := by
  induction ds with
  | nil => cases hd
  | cons x ds ih =>
    rw [DataW.weightsAll]
    rcases List.mem_cons.1 hd with rfl | hd
    · exact List.mem_append_left _ hn
    · exact List.mem_append_right _ (ih hd)
theorem pairs_wt {H : Type} {enc : TypeId × Value → H} {W : World} {xa : Option Addr} {len cap : Nat} {d : DataW H} {pl : List MemPlace}
    (h : ∃ fuel, DataW.trod enc Tryd.prog W 0 (fun _ => true) true fuel 23 (Value.slice xa len cap).cells.toList = some (d, pl)) (hw : ∀ n ∈ d.weights Tryd.prog 23, n ≤ reachBytes) :
    ∃ l, Ps W xa len l ∧ (∀ p ∈ l, Room p.1 ∧ Room p.2) ∧ len ≤ 9223372036854775807 ∧ len ≤ cap := by
  obtain ⟨fuel, hf⟩ := h
  rcases open_slice_pairs Tryd.underlying23 Tryd.underlying37 (by kernel_rfl) rfl rfl (by kernel_rfl) (by kernel_rfl) hf with ⟨hcs, hx⟩ | ⟨a, len', cap', m, n, V0, V1, D0, D1, P0, P1, hcs, _, hl, hm, hmm, hx, hel⟩
  · simp [Value.cells] at hcs
    obtain ⟨rfl, rfl, rfl⟩ := hcs
    exact ⟨[], Ps.nil _ _, (by intro x hx; cases hx), by omega, by omega⟩
  · simp [Value.cells] at hcs
    obtain ⟨rfl, rfl, rfl⟩ := hcs
    have hm' : m = cap := by simpa using hmm
    subst hm'
    simp only [Prod.mk.injEq] at hx
    have hwt : ∀ i, i < len → ∀ k ∈ (DataW.agg [D0 i, D1 i]).weights Tryd.prog 37, k ≤ reachBytes := by
      intro i hi k hk
      apply hw
      rw [hx.1, DataW.weights]
      simp only [Tryd.underlying23]
      refine List.mem_cons_of_mem _ (List.mem_append_left _ ?_)
      exact mem_all (List.mem_map.2 ⟨i, List.mem_range.2 hi, rfl⟩) hk
    obtain ⟨f, hfp⟩ := choose_lt (α := Pr) (n := len) (p := fun i t => V0 i = tx t.1 ∧ V1 i = tx t.2 ∧ Room t.1 ∧ Room t.2) (fun i hi => by
      obtain ⟨_, _, z0, z1⟩ := hel i (by omega)
      obtain ⟨s0, e0, d0, b0⟩ := DataW.trod_string Tryd.underlying9 z0
      obtain ⟨s1, e1, d1, b1⟩ := DataW.trod_string Tryd.underlying9 z1
      obtain ⟨l0, q0, n0⟩ := tx_of s0
      obtain ⟨l1, q1, n1⟩ := tx_of s1
      simp only [Prod.mk.injEq] at d0 d1
      have hk := hwt i hi
      rw [d0.1, d1.1] at hk
      have r0 := hk s0.data.toList.length (by simp [DataW.weights, DataW.weightsEach, Tryd.underlying37])
      have r1 := hk s1.data.toList.length (by simp [DataW.weights, DataW.weightsEach, Tryd.underlying37])
      rw [← q0] at r0
      rw [← q1] at r1
      simp at e0 e1
      refine ⟨(l0, l1), by rw [e0, ← q0], by rw [e1, ← q1], ?_, ?_⟩
      · exact r0
      · exact r1)
    refine ⟨(List.range len).map f, ⟨by simp, fun hp => ?_⟩, ?_, by unfold maxLen at hm; omega, hl⟩
    · obtain ⟨b, off, spot⟩ := a
      have hc := (hel 0 (by omega)).1
      have hspot : spot = none := by simpa [Addr.add] using World.cell?_spot hc
      subst hspot
      refine ⟨b, off, rfl, fun j hj => ?_⟩
      obtain ⟨e1, e2, _⟩ := hfp j hj
      obtain ⟨q0, q1, _, _⟩ := hel j (by omega)
      rw [Addr.add_lit, e1] at q0
      rw [Addr.add_lit, e2] at q1
      have e : ((List.range len).map f).getD j ([], []) = f j := by simp [List.getD, hj]
      rw [e]
      exact ⟨q0, q1⟩
    · intro x hx
      obtain ⟨i, hi, rfl⟩ := List.mem_map.1 hx
      exact (hfp i (List.mem_range.1 hi)).2.2

theorem lift_sized {H : Type} {enc : TypeId × Value → H} {a : Assume} {C : Checked} {os : Os} {f : FuncId} {fn : Func} {s : ChangeSpec} {conds : List PathCond} {apart fresh handsOn again : Bool} {X : World → Array Value → Prop}
    (own : ownKnob C.prog.godebug = none) (started : os.Started) (noInit : C.prog.inits.idxOf? f = none) (hfn : C.prog.funcs[f]? = some fn)
    (witness : ∃ (w : World) (tape : Tape) (i : Input), w.os = os ∧ (w.forCall tape i).Shaped C.prog ∧ i.vars = [] ∧ Input.okWide C.prog (w.forCall tape i) .any w.heap.size f i ∧
      ((s.pre enc C.prog fn conds apart (w.forCall tape i).memory i.args ∧ X (w.forCall tape i).memory i.args) ∧ sizedMet enc C.prog fn (OpenSpec.ofChange s) apart (w.forCall tape i).memory i.args) ∧ a.holds C.prog (lone (Frame.enter C.prog f i.args .normal) [] (w.forCall tape i)))
    (contract : ∀ (W : World) (base : Nat) (args : Array Value) (ds gs : List (DataW H)) (before : List MemPlace),
      (∀ (j : Nat) t v, fn.params[j]? = some t → args[j]? = some v → Value.okWide C.prog W .any base t v) →
      DataW.Whole enc C.prog fn.params.toList s.vars apart W args.toList ds gs before → W.ShapedOpen C.prog →
      (∀ n ∈ DataW.weightsEach C.prog (fn.params.toList ++ (OpenSpec.ofChange s).bare.plain.varTypes C.prog) (ds ++ gs), n ≤ reachBytes) →
      Calls C.prog f args W fun e W' => ∃ v, e = .returned v ∧ s.post enc C.prog fn apart fresh handsOn again W args v W') :
    ReturnsInHanded a C os f .any (fun w args => (s.pre enc C.prog fn conds apart w args ∧ X w args) ∧ sizedMet enc C.prog fn (OpenSpec.ofChange s) apart w args) (s.post enc C.prog fn apart fresh handsOn again) := by
  refine returnsInHanded_of_calls own started noInit witness ?_
  intro w tape i _ hsh _ hok hpre _
  obtain ⟨_, _, _, fn', hfn', _, _, _, _, hval⟩ := hok
  have e : fn' = fn := Option.some.inj (hfn'.symm.trans hfn)
  subst e
  obtain ⟨_, _, ds, gs, before, hw, hz⟩ := hpre
  have hw' := DataW.Whole.of_heap (w' := w.forCall tape i) (by rfl) hw
  refine (contract (w.forCall tape i) w.heap.size i.args ds gs before hval hw' hsh (fun n hn => by simpa using List.all_eq_true.1 hz n hn)).mono fun e W' ⟨v, he, hp⟩ => ?_
  subst he
  exact ChangeSpec.post_blind hp
end Go.Proofs.YtcalbghoacedhaaDoor
