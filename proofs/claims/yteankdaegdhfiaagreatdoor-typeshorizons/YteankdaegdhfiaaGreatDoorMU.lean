/- Texts that the others lean on, laid together. -/
import Derived.Test.YteankdaegdhfiaaGreatDoorMB
import Derived.Test.YteankdaegdhfiaaGreatDoorRows
import Derived.ProofKit
import Derived.OpenShut
import Derived.LaidMore
import Derived.Lay
import Derived.SevenTiedAt
import Derived.Stop.Joined
import Derived.Lib.SmallJoins
import Derived.Lib.LaidTab
import Derived.Stop.LaidErr
import Derived.ChangeMaps5
import Derived.Deep.SlicePairs
import Derived.SliceStrings
import Derived.HandedShaped
import Derived.Shelf.Vars
import Derived.Test.YteankdaegdhfiaaGreatDoorMT
import Derived.LaidHandle
/- What is handed in: slices of texts, of bytes out of their readings; what the library's variables hold when a call begins. -/
namespace Go.Proofs.YteankdaegdhfiaaGreatDoor
open Go.ChangeShapes Go.WideShapes Go.ChangeAt Go.RowKit Go.Deep

theorem laidOut : laidOutB Tryz.prog = true := by kernel_rfl
theorem mx_of {W : World} (h : W.ShapedOpen Tryz.prog) : Mx W :=
  cell_of_shapedOpen_int (g := 4) (t := 3) (zero := #[.int .i64 0]) (k := .i64) h (of_decide_eq_true (by kernel_rfl)) (by kernel_rfl) rfl (by kernel_rfl) (by kernel_rfl) Tryz.underlying3
theorem tx_of (s : ByteArray) : ∃ l : Str, (⟨l.toArray⟩ : ByteArray) = s ∧ l.length = s.size := ⟨s.data.toList, Lib.mk_data s, by rw [Array.length_toList]; rfl⟩
def Ns (w : World) (ao : Option Addr) (n : Nat) (l : List UInt8) : Prop :=
  l.length = n ∧ (0 < n → ∃ b off, ao = some ⟨b, off, none⟩ ∧ ∀ j, j < n → w.cell? ⟨b, off + j, none⟩ = some (.int .u8 (l.getD j 0).toNat))
theorem bytes_of {H : Type} {enc : TypeId × Value → H} {W : World} {xa : Option Addr} {len cap : Nat} {x : DataW H × List MemPlace}
    (h : ∃ fuel, DataW.trod enc Tryz.prog W 0 (fun _ => true) true fuel 63 (Value.slice xa len cap).cells.toList = some x) :
    ∃ l, Ns W xa len l ∧ len ≤ 9223372036854775807 := by
  obtain ⟨fuel, hf⟩ := h
  rcases open_ints Tryz.underlying63 Tryz.underlying5 (by kernel_rfl) hf with ⟨hcs, hx⟩ | ⟨a, len', cap', zs, hcs, _, hl, hm, hlen, hx, hel, hw⟩
  · simp [Value.cells] at hcs
    obtain ⟨rfl, rfl, rfl⟩ := hcs
    exact ⟨[], ⟨rfl, fun h => by omega⟩, by omega⟩
  · simp [Value.cells] at hcs
    obtain ⟨rfl, rfl, rfl⟩ := hcs
    have hss : len ≤ zs.length := by rw [hlen]; split <;> omega
    refine ⟨(List.range len).map (fun i => UInt8.ofNat (zs.getD i 0).toNat), ⟨by simp, fun hp => ?_⟩, by unfold maxLen at hm; omega⟩
    obtain ⟨b, off, spot⟩ := a
    have hc := hel 0 (by omega)
    have hspot : spot = none := by simpa [Addr.add] using World.cell?_spot hc
    subst hspot
    refine ⟨b, off, rfl, fun j hj => ?_⟩
    have q0 := hel j (by omega)
    rw [Addr.add_lit] at q0
    rw [q0]
    have hm2 : zs.getD j 0 ∈ zs := by
      have hj2 : j < zs.length := by omega
      simp [List.getD, List.getElem?_eq_getElem hj2]
    have hwf := hw _ hm2
    have hb : 0 ≤ zs.getD j 0 ∧ zs.getD j 0 ≤ 255 := by simpa [Lit.wf, IntKind.min, IntKind.max, IntKind.signed, IntKind.bits] using hwf
    have e : ((List.range len).map (fun i => UInt8.ofNat (zs.getD i 0).toNat)).getD j 0 = UInt8.ofNat (zs.getD j 0).toNat := by simp [List.getD, hj]
    rw [e, UInt8.toNat_ofNat']
    congr 2
    omega
theorem lift_env {H : Type} {enc : TypeId × Value → H} {a : Assume} {C : Checked} {os : Os} {f : FuncId} {fn : Func} {s : ChangeSpec} {conds : List PathCond} {apart fresh handsOn again : Bool} {X : World → Array Value → Prop} (hX : ∀ w w' args, w.heap = w'.heap → X w args → X w' args)
    (own : ownKnob C.prog.godebug = none) (started : os.Started) (noInit : C.prog.inits.idxOf? f = none) (hfn : C.prog.funcs[f]? = some fn)
    (witness : ∃ (w : World) (tape : Tape) (i : Input), w.os = os ∧ (w.forCall tape i).Shaped C.prog ∧ i.vars = [] ∧ Input.okWide C.prog (w.forCall tape i) .any w.heap.size f i ∧
      ((s.pre enc C.prog fn conds apart (w.forCall tape i).memory i.args ∧ X (w.forCall tape i).memory i.args) ∧ sizedMet enc C.prog fn (OpenSpec.ofChange s) apart (w.forCall tape i).memory i.args) ∧ a.holds C.prog (lone (Frame.enter C.prog f i.args .normal) [] (w.forCall tape i)))
    (contract : ∀ (W : World) (base : Nat) (args : Array Value) (ds gs : List (DataW H)) (before : List MemPlace),
      (∀ (j : Nat) t v, fn.params[j]? = some t → args[j]? = some v → Value.okWide C.prog W .any base t v) →
      DataW.Whole enc C.prog fn.params.toList s.vars apart W args.toList ds gs before → W.ShapedOpen C.prog → X W args →
      Calls C.prog f args W fun e W' => ∃ v, e = .returned v ∧ s.post enc C.prog fn apart fresh handsOn again W args v W') :
    ReturnsInHanded a C os f .any (fun w args => (s.pre enc C.prog fn conds apart w args ∧ X w args) ∧ sizedMet enc C.prog fn (OpenSpec.ofChange s) apart w args) (s.post enc C.prog fn apart fresh handsOn again) := by
  refine returnsInHanded_of_calls own started noInit witness ?_
  intro w tape i _ hsh _ hok hpre _
  obtain ⟨_, _, _, fn', hfn', _, _, _, _, hval⟩ := hok
  have e : fn' = fn := Option.some.inj (hfn'.symm.trans hfn)
  subst e
  obtain ⟨⟨⟨ds, gs, before, hw, hc⟩, hx⟩, hz⟩ := hpre
  have hw' := DataW.Whole.of_heap (w' := w.forCall tape i) (by rfl) hw
  refine (contract (w.forCall tape i) w.heap.size i.args ds gs before hval hw' hsh (hX _ _ _ (by rfl) hx)).mono fun e W' ⟨v, he, hp⟩ => ?_
  subst he
  exact ChangeSpec.post_blind hp

/-! ### What the library's variables hold when a call begins -/
theorem gES : Tryz.prog.globalNamed "strconv.ErrSyntax" = some 5 := by kernel_rfl
theorem gER : Tryz.prog.globalNamed "strconv.ErrRange" = some 6 := by kernel_rfl
theorem tES : (Tryz.prog.globals[5]?).map (·.type) = some 93 := by kernel_rfl
theorem tER : (Tryz.prog.globals[6]?).map (·.type) = some 93 := by kernel_rfl
theorem c141 : Tryz.prog.cellsOf 296 = 1 := by kernel_rfl
theorem c9 : Tryz.prog.cellsOf 9 = 1 := by kernel_rfl
theorem starE : "*" ++ "errors.errorString" = "*errors.errorString" := by decide
theorem rowES (u : TypeId) (h : Tryz.prog.typeName? 3 u = some "*errors.errorString") : u = 294 :=
  typeName_ptr_named (nm := "errors.errorString") (by rw [starE]; kernel_rfl) (by kernel_rfl) (by decide) u (by rw [starE]; exact h)
theorem env_of {W : World} (hsh : W.ShapedOpen Tryz.prog) (h : laidMetH Tryz.prog Rows.exprTellsRow.laid W) : Ev W := by
  rw [MakeChecks.laidMetH_plain _ _ _ (by kernel_rfl)] at h
  have h2 := laidMet.tail (laidMet.tail h)
  have h4 := laidMet.tail (laidMet.tail h2)
  have h5 := laidMet.tail h4
  refine ⟨mx_of hsh, ?_, ?_, ?_⟩
  · obtain ⟨a0, s0, hv0, -, -, -⟩ := laid_sentinel h5 gES tES Tryz.underlying93 rowES Tryz.underlying294 Tryz.underlying296 rfl rfl Tryz.underlying9 c141 c9
    have h0 := World.var?_cell gES hv0 0
    exact ⟨_, by simpa using h0, Or.inr ⟨_, _, rfl⟩⟩
  · obtain ⟨a0, s0, hv0, -, -, -⟩ := laid_sentinel h4 gER tER Tryz.underlying93 rowES Tryz.underlying294 Tryz.underlying296 rfl rfl Tryz.underlying9 c141 c9
    have h0 := World.var?_cell gER hv0 0
    exact ⟨_, by simpa using h0, Or.inr ⟨_, _, rfl⟩⟩
  · exact Lib.tabIs_of_head (g := 1) (t := 259) (e := 162) (n := 20) (by kernel_rfl) (by kernel_rfl) Tryz.underlying259 Tryz.underlying162 (by kernel_rfl) (by kernel_rfl) h2
end Go.Proofs.YteankdaegdhfiaaGreatDoor
/- What the library's variables hold when a call of a law of types begins; a world that is so. -/
namespace Go.Proofs.YteankdaegdhfiaaGreatDoor
open Go.ChangeShapes Go.WideShapes Go.ChangeAt Go.RowKit Go.Deep

theorem etN : Tryz.prog.globalNamed "errors.errorType" = some 0 := by kernel_rfl
theorem etR : (Tryz.prog.cutTypes.find? (·.1 == "internal/reflectlite.rtype")).map (·.2) = some 183 := by kernel_rfl
theorem etOne : ((List.range 324).filter fun t => Tryz.prog.rowNamed t [101, 114, 114, 111, 114]) = [93] := by kernel_rfl
theorem etSize : Tryz.prog.types.size = 324 := by kernel_rfl
theorem env_ty {W : World} (hsh : W.ShapedOpen Tryz.prog) (h : laidMetH Tryz.prog Rows.typesRangedRow.laid W) : Ev W ∧ Et W := by
  have h' : laidMet Tryz.prog Rows.exprTellsRow.laid W ∧ handlesMet Tryz.prog [("errors.errorType", Rows.laid_errors_errorType)] W := h
  refine ⟨env_of hsh (by rw [MakeChecks.laidMetH_plain _ _ _ (by kernel_rfl)]; exact h'.1), ?_⟩
  obtain ⟨name, u, ty, e1, e2, e3, e4, e5⟩ := h'.2 _ (List.mem_singleton.2 rfl)
  have en : name = [101, 114, 114, 111, 114] := (Option.some.inj e1).symm
  subst en
  obtain rfl := Option.some.inj (etR.symm.trans e2)
  have hm : ty ∈ (List.range 324).filter fun t => Tryz.prog.rowNamed t [101, 114, 114, 111, 114] := List.mem_filter.2 ⟨List.mem_range.2 (by rw [← etSize]; exact e3), e4⟩
  rw [etOne] at hm
  obtain rfl := List.mem_singleton.1 hm
  have hh : typeHandle Tryz.prog 93 = .pointer (some ⟨9, 93, none⟩) := by kernel_rfl
  rw [hh] at e5
  have := World.var?_cell etN e5 0
  show W.cell? ⟨0, 0, none⟩ = _
  simpa using this
/-- The settled world, the first variable holding a handle. -/
def wH (P : Program) (os : Os) (u : TypeId) (h : Value) : World := { World.holding P os ⟨#[], #[], []⟩ with heap := (World.holding P os ⟨#[], #[], []⟩).heap.modify 0 fun o => match o with
  | .cells _ t fr => .cells #[.iface u (.agg #[h])] t fr
  | o => o }
abbrev plL (l : List (String × DataW Unit)) : List (String × DataW Unit) := l.filter fun x => x.2.handleName?.isNone
def wL (P : Program) (os : Os) (u : TypeId) (h : Value) (l : List (String × DataW Unit)) : World := (wH P os u h).layVars P (plL l)
theorem wL_os (P : Program) (os : Os) (u : TypeId) (h : Value) (l : List (String × DataW Unit)) : (wL P os u h l).os = os := World.layVars_os _ _ _
theorem wL_met {P : Program} {os : Os} {u : TypeId} {h : Value} {l : List (String × DataW Unit)} (args : Array Value) (hf : (wH P os u h).layFits P (plL l) [] = true) (hi : (wH P os u h).layIfaces P (plL l) (wL P os u h l) = true)
    (hh : (l.filter fun x => x.2.handleName?.isSome).all (handleAtB P ((wL P os u h l).forCall (fun _ _ => 0) ⟨#[], args, []⟩).memory) = true) : laidMetH P l ((wL P os u h l).forCall (fun _ _ => 0) ⟨#[], args, []⟩).memory := by
  refine laidMetH_of_parts ?_ hh
  have e1 : ((plL l).filter fun x => ((plL l).map (·.1)).contains x.1) = plL l := List.filter_eq_self.2 fun x hx => List.contains_iff_mem.2 (List.mem_map.2 ⟨x, hx, rfl⟩)
  have e2 : ((plL l).filter fun x => !((plL l).map (·.1)).contains x.1) = [] := List.filter_eq_nil_iff.2 fun x hx => by rw [List.contains_iff_mem.2 (List.mem_map.2 ⟨x, hx, rfl⟩)]; simp
  have hw : laidMet P (plL l) (wL P os u h l) := laidMet_layVars (w0 := wH P os u h) ((plL l).map (·.1)) [] (by rw [e1]; rfl) (by rw [e1]; exact hf) (by rw [e1]; exact hi) (by rw [e2]; exact LaidIn.none)
  exact hw.of_heap (by simp [World.memory, World.forCall, Input.heap])
end Go.Proofs.YteankdaegdhfiaaGreatDoor
