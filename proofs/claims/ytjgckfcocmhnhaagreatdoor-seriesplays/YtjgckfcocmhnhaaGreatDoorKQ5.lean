/- Texts that the others lean on. -/
import Derived.Test.YtjgckfcocmhnhaaGreatDoorRows
import Derived.ProofKit
import Derived.OpenShut
import Derived.LaidMore
import Derived.Lay
import Derived.SevenTiedAt
import Derived.Stop.Joined
import Derived.Lib.SmallJoins
import Derived.Lib.LaidTab
import Derived.Stop.LaidErr
import Derived.ChangeMaps5
import Derived.Deep.SlicePairs
import Derived.SliceStrings
import Derived.HandedShaped
import Derived.Shelf.Vars
import Derived.Test.YtjgckfcocmhnhaaGreatDoorKQ1
namespace Go.Proofs.YtjgckfcocmhnhaaGreatDoor
open Go.ChangeShapes Go.WideShapes Go.ChangeAt Go.RowKit Go.Deep
theorem laidOut : laidOutB Tryz.prog = true := by kernel_rfl
theorem lift_both {H : Type} {enc : TypeId × Value → H} {a : Assume} {C : Checked} {os : Os} {f : FuncId} {fn : Func} {s : ChangeSpec} {conds : List PathCond} {apart fresh handsOn again : Bool} {X : World → Array Value → Prop}
  (own : ownKnob C.prog.godebug = none) (started : os.Started) (noInit : C.prog.inits.idxOf? f = none) (hfn : C.prog.funcs[f]? = some fn)
  (witness : ∃ (w : World) (tape : Tape) (i : Input), w.os = os ∧ (w.forCall tape i).Shaped C.prog ∧ i.vars = [] ∧ Input.okWide C.prog (w.forCall tape i) .any w.heap.size f i ∧
   ((s.pre enc C.prog fn conds apart (w.forCall tape i).memory i.args ∧ X (w.forCall tape i).memory i.args) ∧ sizedMet enc C.prog fn (OpenSpec.ofChange s) apart (w.forCall tape i).memory i.args) ∧ a.holds C.prog (lone (Frame.enter C.prog f i.args .normal) [] (w.forCall tape i)))
  (contract : ∀ (W : World) (base : Nat) (args : Array Value) (ds gs : List (DataW H)) (before : List MemPlace),
   (∀ (j : Nat) t v, fn.params[j]? = some t → args[j]? = some v → Value.okWide C.prog W .any base t v) →
   DataW.Whole enc C.prog fn.params.toList s.vars apart W args.toList ds gs before → W.ShapedOpen C.prog →
   Calls C.prog f args W fun e W' => ∃ v, e = .returned v ∧ s.post enc C.prog fn apart fresh handsOn again W args v W') :
  ReturnsInHanded a C os f .any (fun w args => (s.pre enc C.prog fn conds apart w args ∧ X w args) ∧ sizedMet enc C.prog fn (OpenSpec.ofChange s) apart w args) (s.post enc C.prog fn apart fresh handsOn again) := by
 refine returnsInHanded_of_calls own started noInit witness ?_
 intro w tape i _ hsh _ hok hpre _
 obtain ⟨_, _, _, fn', hfn', _, _, _, _, hval⟩ := hok
 have e : fn' = fn := Option.some.inj (hfn'.symm.trans hfn)
 subst e
 obtain ⟨⟨⟨ds, gs, before, hw, hc⟩, hx⟩, hz⟩ := hpre
 have hw' := DataW.Whole.of_heap (w' := w.forCall tape i) (by rfl) hw
 refine (contract (w.forCall tape i) w.heap.size i.args ds gs before hval hw' hsh).mono fun e W' ⟨v, he, hp⟩ => ?_
 subst he
 exact ChangeSpec.post_blind hp
end Go.Proofs.YtjgckfcocmhnhaaGreatDoor
namespace Go.Proofs.YtjgckfcocmhnhaaGreatDoor.Sp
open Go.ChangeShapes Go.WideShapes Go.ChangeAt Go.RowKit Go.Deep
/-- A step that is handed in. -/
structure Stp where
 tm : Bool
 qa : Option Addr
 qn : Nat
 qc : Nat
 q : List Lb.Pr
 x : Smp
def stp0 : Stp := ⟨false, none, 0, 0, [], (0, false, 0)⟩
/-- A slice of steps in memory. -/
def Sts (W : World) (ao : Option Addr) (len : Nat) (f : Nat → Stp) : Prop :=
 (0 < len → ∃ b off, ao = some ⟨b, off, none⟩ ∧ ∀ j, j < len → W.cell? ⟨b, off + j * 5, none⟩ = some (.bool (f j).tm) ∧ W.cell? ⟨b, off + j * 5 + 1, none⟩ = some (.slice (f j).qa (f j).qn (f j).qc) ∧ W.cell? ⟨b, off + j * 5 + 2, none⟩ = some (.int .i64 (f j).x.1) ∧ W.cell? ⟨b, off + j * 5 + 3, none⟩ = some (.bool (f j).x.2.1) ∧ W.cell? ⟨b, off + j * 5 + 4, none⟩ = some (.int .i64 (f j).x.2.2)) ∧
 ∀ j, j < len → Lb.Ps W (f j).qa (f j).qn (f j).q ∧ Lb.Fit (f j).q ∧ R64 (f j).x.1 ∧ R64 (f j).x.2.2
theorem Sts.later {w w' : World} {ao : Option Addr} {len : Nat} {f : Nat → Stp} (h : Sts w ao len f) (hb : Below w.heap.size w w') : Sts w' ao len f := by
 refine ⟨fun h0 => ?_, fun j hj => ?_⟩
 ·
  obtain ⟨b, off, e, hc⟩ := h.1 h0
  refine ⟨b, off, e, fun j hj => ?_⟩
  obtain ⟨c0, c1, c2, c3, c4⟩ := hc j hj
  have k : ∀ {p : Nat} {v : Value}, w.cell? ⟨b, p, none⟩ = some v → w'.cell? ⟨b, p, none⟩ = some v := fun {p} {v} c => (hb.cell (p := ⟨b, p, none⟩) (World.block_lt_of_cell? _ _ c)).trans c
  exact ⟨k c0, k c1, k c2, k c3, k c4⟩
 ·
  obtain ⟨h1, h2, h3⟩ := h.2 j hj
  exact ⟨h1.later hb, h2, h3⟩
theorem c37 : Tryz.prog.cellsOf 37 = 5 := by kernel_rfl
theorem c45 : Tryz.prog.cellsOf 45 = 2 := by kernel_rfl
theorem c65 : Tryz.prog.cellsOf 65 = 3 := by kernel_rfl
theorem c35 : Tryz.prog.cellsOf 35 = 3 := by kernel_rfl
theorem c33 : Tryz.prog.cellsOf 33 = 2 := by kernel_rfl
theorem c31 : Tryz.prog.cellsOf 31 = 1 := by kernel_rfl
theorem c9 : Tryz.prog.cellsOf 9 = 1 := by kernel_rfl
theorem c4 : Tryz.prog.cellsOf 4 = 1 := by kernel_rfl
theorem c3 : Tryz.prog.cellsOf 3 = 1 := by kernel_rfl
theorem c2 : Tryz.prog.cellsOf 2 = 1 := by kernel_rfl
theorem tx_of (s : ByteArray) : ∃ l : Lb.Str, (⟨l.toArray⟩ : ByteArray) = s ∧ l.length = s.size := ⟨s.data.toList, Lib.mk_data s, by rw [Array.length_toList]; rfl⟩
section
variable {H : Type} {enc : TypeId × Value → H} {W : World}
abbrev Rdg (enc : TypeId × Value → H) (W : World) (fuel : Nat) (t : TypeId) (cs : List Value) (x : DataW H × List MemPlace) : Prop := DataW.trod enc Tryz.prog W 0 (fun _ => true) true fuel t cs = some x
theorem l2 {α : Type} : ∀ {l : List α}, l.length = 2 → ∃ a b, l = [a, b]
 | [a, b], _ => ⟨a, b, rfl⟩
theorem l3 {α : Type} : ∀ {l : List α}, l.length = 3 → ∃ a b c, l = [a, b, c]
 | [a, b, c], _ => ⟨a, b, c, rfl⟩
theorem l5 {α : Type} : ∀ {l : List α}, l.length = 5 → ∃ a b c d e, l = [a, b, c, d, e]
 | [a, b, c, d, e], _ => ⟨a, b, c, d, e, rfl⟩
/-- A slice's elements, each out of its reading. -/
theorem sl_of {fuel : Nat} {t e : TypeId} {v : Value} {x : DataW H × List MemPlace} (c : Nat) (hc : Tryz.prog.cellsOf e = c) (hc0 : 0 < c) (ht : Tryz.prog.underlying t = some (.slice e)) (h : Rdg enc W fuel t [v] x) :
  ∃ ao len cap, v = .slice ao len cap ∧ len ≤ cap ∧ len ≤ 9223372036854775807 ∧ ∃ b off n, n < fuel ∧ (0 < len → ao = some ⟨b, off, none⟩) ∧ ∀ i, i < len → ∃ cs' x', cs'.length = c ∧ (∀ j, j < c → W.cell? ⟨b, off + (i * c + j), none⟩ = cs'[j]?) ∧ Rdg enc W n e cs' x' := by
 rcases DataW.trod_slice ht h with h0 | ⟨a, len, cap, elems, rest, n, hn, hcs, _, _, hl, hm, hlen, hel, _, _⟩
 ·
  have e0 : v = .slice none 0 0 := by simpa using h0.1
  cases fuel with
  | zero => cases h
  | succ m => exact ⟨none, 0, 0, e0, by omega, by omega, 0, 0, m, by omega, fun q => by omega, fun i q => by omega⟩
 ·
  have e0 : v = .slice (some a) len cap := by simpa using hcs
  have key : ∀ i, i < len → ∃ cs' x', W.cells? 0 (a.add (i * c)) c = some cs' ∧ Rdg enc W n e cs' x' := fun i hi => by
   have h1 := hel i hi
   rw [List.getElem?_eq_getElem (by omega), hc] at h1
   cases hq : W.cells? 0 (a.add (i * c)) c with
   | none => rw [hq] at h1; cases h1
   | some cs' => rw [hq] at h1; exact ⟨cs', _, rfl, h1⟩
  obtain ⟨b, off, spot⟩ := a
  have hsp : 0 < len → spot = none := fun hp => by
   obtain ⟨cs', x', h1, _⟩ := key 0 hp
   obtain ⟨_, hl', hcell⟩ := World.cells?_some h1
   have h2 := hcell 0 hc0
   rw [List.getElem?_eq_getElem (by omega)] at h2
   simpa [Addr.add] using World.cell?_spot h2
  refine ⟨_, len, cap, e0, hl, by unfold maxLen at hm; omega, b, off, n, by omega, fun hp => ?_, fun i hi => ?_⟩
  ·
   rw [hsp hp]
  ·
   obtain ⟨cs', x', h1, h3⟩ := key i hi
   obtain ⟨_, hl', hcell⟩ := World.cells?_some h1
   obtain rfl := hsp (by omega)
   refine ⟨cs', x', hl', fun j hj => ?_, h3⟩
   have h4 := hcell j hj
   rw [add_add, Addr.add_lit] at h4
   exact h4
theorem str_of {fuel : Nat} {v : Value} {x : DataW H × List MemPlace} (h : Rdg enc W fuel 9 [v] x) : ∃ s : Lb.Str, v = Lb.tx s ∧ s.length ≤ 9223372036854775807 := by
 obtain ⟨s, z, _, b⟩ := DataW.trod_string Tryz.underlying9 h
 obtain ⟨l, q, n⟩ := tx_of s
 refine ⟨l, ?_, ?_⟩
 ·
  have : v = .string s := by simpa using z
  rw [this, ← q]
 ·
  unfold maxLen at b
  omega
theorem int_of {fuel : Nat} {v : Value} {x : DataW H × List MemPlace} (h : Rdg enc W fuel 3 [v] x) : ∃ n : Int, v = .int .i64 n ∧ R64 n := by
 obtain ⟨n, z, _, wf⟩ := DataW.trod_int Tryz.underlying3 h
 exact ⟨n, by simpa using z, by simpa [R64, Lit.wf, IntKind.min, IntKind.max, IntKind.signed, IntKind.bits] using wf⟩
theorem i64_of {fuel : Nat} {v : Value} {x : DataW H × List MemPlace} (h : Rdg enc W fuel 2 [v] x) : ∃ n : Int, v = .int .i64 n ∧ R64 n := by
 obtain ⟨n, z, _, wf⟩ := DataW.trod_int Tryz.underlying2 h
 exact ⟨n, by simpa using z, by simpa [R64, Lit.wf, IntKind.min, IntKind.max, IntKind.signed, IntKind.bits] using wf⟩
theorem bool_of {fuel : Nat} {v : Value} {x : DataW H × List MemPlace} (h : Rdg enc W fuel 4 [v] x) : ∃ n : Bool, v = .bool n := by
 obtain ⟨n, z, _⟩ := DataW.trod_bool Tryz.underlying4 h
 exact ⟨n, by simpa using z⟩
theorem pairs_of {fuel : Nat} {v : Value} {x : DataW H × List MemPlace} (h : Rdg enc W fuel 31 [v] x) : ∃ ao len cap q, v = .slice ao len cap ∧ Lb.Ps W ao len q ∧ Lb.Fit q := by
 obtain ⟨ao, len, cap, rfl, hl, hm, b, off, n, _, hao, hel⟩ := sl_of 2 c45 (by omega) Tryz.underlying31 h
 obtain ⟨f, hf⟩ := @choose_lt Lb.Pr ⟨([], [])⟩ len (fun i p => (W.cell? ⟨b, off + (i * 2 + 0), none⟩ = some (Lb.tx p.1) ∧ W.cell? ⟨b, off + (i * 2 + 1), none⟩ = some (Lb.tx p.2)) ∧ p.1.length ≤ 9223372036854775807 ∧ p.2.length ≤ 9223372036854775807) (fun i hi => by
  obtain ⟨cs', x', h1, h2, h3⟩ := hel i hi
  obtain ⟨xs, k, _, _, _, hxl, hfs⟩ := DataW.trod_struct Tryz.underlying45 h3
  obtain ⟨y0, y1, rfl⟩ := l2 (hxl.trans rfl)
  obtain ⟨v0, v1, rfl⟩ := l2 h1
  have g0 := hfs 0 _ rfl
  have g1 := hfs 1 _ rfl
  simp [c9] at g0 g1
  obtain ⟨s0, rfl, b0⟩ := str_of g0
  obtain ⟨s1, rfl, b1⟩ := str_of g1
  exact ⟨(s0, s1), ⟨by simpa using h2 0 (by omega), by simpa using h2 1 (by omega)⟩, b0, b1⟩)
 refine ⟨ao, len, cap, (List.range len).map f, rfl, ⟨by simp, fun hp => ⟨b, off, hao hp, fun j hj => ?_⟩⟩, fun p hp => ?_⟩
 ·
  have e : ((List.range len).map f).getD j ([], []) = f j := by simp [List.getD, hj]
  rw [e]
  exact (hf j hj).1
 ·
  obtain ⟨i, hi, rfl⟩ := List.mem_map.1 hp
  exact (hf i (List.mem_range.1 hi)).2
theorem mats_of {xa : Option Addr} {len cap : Nat} {x : DataW H × List MemPlace} (h0 : ∃ fuel, DataW.trod enc Tryz.prog W 0 (fun _ => true) true fuel 23 (Value.slice xa len cap).cells.toList = some x) : ∃ l, Lb.Ms W xa len l ∧ Lb.FitM l := by
 obtain ⟨fuel, h⟩ := h0
 have h : Rdg enc W fuel 23 [.slice xa len cap] x := h
 obtain ⟨ao, len', cap', e, hl, hm, b, off, n, _, hao, hel⟩ := sl_of 3 c65 (by omega) Tryz.underlying23 h
 injection e with e1 e2 e3
 subst e1 e2 e3
 obtain ⟨f, hf⟩ := @choose_lt Lb.Mat ⟨Lb.mat0⟩ len (fun i s => (W.cell? ⟨b, off + (i * 3 + 0), none⟩ = some (Lb.tx s.name) ∧ W.cell? ⟨b, off + (i * 3 + 1), none⟩ = some (.int .i64 s.kind) ∧ W.cell? ⟨b, off + (i * 3 + 2), none⟩ = some (Lb.tx s.text)) ∧ Lb.Big s.name ∧ Lb.Big s.text) (fun i hi => by
  obtain ⟨cs', x', h1, h2, h3⟩ := hel i hi
  obtain ⟨xs, k, _, _, _, hxl, hfs⟩ := DataW.trod_struct Tryz.underlying65 h3
  obtain ⟨y0, y1, y2, rfl⟩ := l3 (hxl.trans rfl)
  obtain ⟨v0, v1, v2, rfl⟩ := l3 h1
  have g0 := hfs 0 _ rfl
  have g1 := hfs 1 _ rfl
  have g2 := hfs 2 _ rfl
  simp [c9, c3] at g0 g1 g2
  obtain ⟨s0, rfl, b0⟩ := str_of g0
  obtain ⟨n1, rfl, _⟩ := int_of g1
  obtain ⟨s2, rfl, b2⟩ := str_of g2
  exact ⟨⟨s0, n1, s2⟩, ⟨by simpa using h2 0 (by omega), by simpa using h2 1 (by omega), by simpa using h2 2 (by omega)⟩, b0, b2⟩)
 refine ⟨(List.range len).map f, ⟨by simp, fun hp => ⟨b, off, hao hp, fun j hj => ?_⟩⟩, fun p hp => ?_⟩
 ·
  have e : ((List.range len).map f).getD j Lb.mat0 = f j := by simp [List.getD, hj]
  rw [e]
  exact (hf j hj).1
 ·
  obtain ⟨i, hi, rfl⟩ := List.mem_map.1 hp
  exact (hf i (List.mem_range.1 hi)).2
theorem steps_of {xa : Option Addr} {len cap : Nat} {x : DataW H × List MemPlace} (h0 : ∃ fuel, DataW.trod enc Tryz.prog W 0 (fun _ => true) true fuel 22 (Value.slice xa len cap).cells.toList = some x) : ∃ f, Sts W xa len f := by
 obtain ⟨fuel, h⟩ := h0
 have h : Rdg enc W fuel 22 [.slice xa len cap] x := h
 obtain ⟨ao, len', cap', e, hl, hm, b, off, n, _, hao, hel⟩ := sl_of 5 c37 (by omega) Tryz.underlying22 h
 injection e with e1 e2 e3
 subst e1 e2 e3
 obtain ⟨f, hf⟩ := @choose_lt Stp ⟨stp0⟩ len (fun i s => (W.cell? ⟨b, off + (i * 5 + 0), none⟩ = some (.bool s.tm) ∧ W.cell? ⟨b, off + (i * 5 + 1), none⟩ = some (.slice s.qa s.qn s.qc) ∧ W.cell? ⟨b, off + (i * 5 + 2), none⟩ = some (.int .i64 s.x.1) ∧ W.cell? ⟨b, off + (i * 5 + 3), none⟩ = some (.bool s.x.2.1) ∧ W.cell? ⟨b, off + (i * 5 + 4), none⟩ = some (.int .i64 s.x.2.2)) ∧ Lb.Ps W s.qa s.qn s.q ∧ Lb.Fit s.q ∧ R64 s.x.1 ∧ R64 s.x.2.2) (fun i hi => by
  obtain ⟨cs', x', h1, h2, h3⟩ := hel i hi
  obtain ⟨xs, k, _, _, _, hxl, hfs⟩ := DataW.trod_struct Tryz.underlying37 h3
  obtain ⟨y0, y1, y2, rfl⟩ := l3 (hxl.trans rfl)
  obtain ⟨v0, v1, v2, v3, v4, rfl⟩ := l5 h1
  have g0 := hfs 0 _ rfl
  have g1 := hfs 1 _ rfl
  have g2 := hfs 2 _ rfl
  simp [c4, c31, c35] at g0 g1 g2
  obtain ⟨n0, rfl⟩ := bool_of g0
  obtain ⟨qa, qn, qc, q, rfl, hq, hqf⟩ := pairs_of g1
  obtain ⟨xs2, k2, _, _, _, hxl2, hfs2⟩ := DataW.trod_struct Tryz.underlying35 g2
  obtain ⟨z0, z1, rfl⟩ := l2 (hxl2.trans rfl)
  have r0 := hfs2 0 _ rfl
  have r1 := hfs2 1 _ rfl
  simp [c3, c33] at r0 r1
  obtain ⟨t, rfl, ht⟩ := int_of r0
  obtain ⟨xs3, k3, _, _, _, hxl3, hfs3⟩ := DataW.trod_struct Tryz.underlying33 r1
  obtain ⟨u0, u1, rfl⟩ := l2 (hxl3.trans rfl)
  have r2 := hfs3 0 _ rfl
  have r3 := hfs3 1 _ rfl
  simp [c4, c2] at r2 r3
  obtain ⟨o, rfl⟩ := bool_of r2
  obtain ⟨m, rfl, hm⟩ := i64_of r3
  exact ⟨⟨n0, qa, qn, qc, q, (t, o, m)⟩, ⟨by simpa using h2 0 (by omega), by simpa using h2 1 (by omega), by simpa using h2 2 (by omega), by simpa using h2 3 (by omega), by simpa using h2 4 (by omega)⟩, hq, hqf, ht, hm⟩)
 refine ⟨f, fun hp => ⟨b, off, hao hp, fun j hj => ?_⟩, fun j hj => (hf j hj).2⟩
 exact (hf j hj).1
end
end Go.Proofs.YtjgckfcocmhnhaaGreatDoor.Sp
