/- ExprNests: for every input the law returns true, and its arguments read as they did: the row, and its card, tied to the program's text. Conditions: none beyond the card's own. -/
import Derived.Test.YtkppcgimhnocdaaGreatDoorMB
import Derived.Test.YtkppcgimhnocdaaGreatDoorRows
import Derived.ProofKit
import Derived.OpenShut
import Derived.LaidMore
import Derived.Lay
import Derived.SevenTiedAt
import Derived.Stop.Joined
import Derived.Lib.SmallJoins
import Derived.Lib.LaidTab
import Derived.Stop.LaidErr
import Derived.ChangeMaps5
import Derived.Deep.SlicePairs
import Derived.SliceStrings
import Derived.HandedShaped
import Derived.Shelf.Vars
import Derived.Test.YtkppcgimhnocdaaGreatDoorMS
import Derived.Test.YtkppcgimhnocdaaGreatDoorTie
import Derived.Test.YtkppcgimhnocdaaGreatDoorCards
/- What is handed in: slices of texts, of bytes out of their readings; what the library's variables hold when a call begins. -/
namespace Go.Proofs.YtkppcgimhnocdaaGreatDoor
open Go.ChangeShapes Go.WideShapes Go.ChangeAt Go.RowKit Go.Deep

theorem laidOut : laidOutB Tryz.prog = true := by kernel_rfl
theorem mx_of {W : World} (h : W.ShapedOpen Tryz.prog) : Mx W :=
  cell_of_shapedOpen_int (g := 3) (t := 3) (zero := #[.int .i64 0]) (k := .i64) h (of_decide_eq_true (by kernel_rfl)) (by kernel_rfl) rfl (by kernel_rfl) (by kernel_rfl) Tryz.underlying3
theorem tx_of (s : ByteArray) : ∃ l : Str, (⟨l.toArray⟩ : ByteArray) = s ∧ l.length = s.size := ⟨s.data.toList, Lib.mk_data s, by rw [Array.length_toList]; rfl⟩
def Ns (w : World) (ao : Option Addr) (n : Nat) (l : List UInt8) : Prop :=
  l.length = n ∧ (0 < n → ∃ b off, ao = some ⟨b, off, none⟩ ∧ ∀ j, j < n → w.cell? ⟨b, off + j, none⟩ = some (.int .u8 (l.getD j 0).toNat))
theorem bytes_of {H : Type} {enc : TypeId × Value → H} {W : World} {xa : Option Addr} {len cap : Nat} {x : DataW H × List MemPlace}
    (h : ∃ fuel, DataW.trod enc Tryz.prog W 0 (fun _ => true) true fuel 50 (Value.slice xa len cap).cells.toList = some x) :
    ∃ l, Ns W xa len l ∧ len ≤ 9223372036854775807 := by
  obtain ⟨fuel, hf⟩ := h
  rcases open_ints Tryz.underlying50 Tryz.underlying5 (by kernel_rfl) hf with ⟨hcs, hx⟩ | ⟨a, len', cap', zs, hcs, _, hl, hm, hlen, hx, hel, hw⟩
  · simp [Value.cells] at hcs
    obtain ⟨rfl, rfl, rfl⟩ := hcs
    exact ⟨[], ⟨rfl, fun h => by omega⟩, by omega⟩
  · simp [Value.cells] at hcs
    obtain ⟨rfl, rfl, rfl⟩ := hcs
    have hss : len ≤ zs.length := by rw [hlen]; split <;> omega
    refine ⟨(List.range len).map (fun i => UInt8.ofNat (zs.getD i 0).toNat), ⟨by simp, fun hp => ?_⟩, by unfold maxLen at hm; omega⟩
    obtain ⟨b, off, spot⟩ := a
    have hc := hel 0 (by omega)
    have hspot : spot = none := by simpa [Addr.add] using World.cell?_spot hc
    subst hspot
    refine ⟨b, off, rfl, fun j hj => ?_⟩
    have q0 := hel j (by omega)
    rw [Addr.add_lit] at q0
    rw [q0]
    have hm2 : zs.getD j 0 ∈ zs := by
      have hj2 : j < zs.length := by omega
      simp [List.getD, List.getElem?_eq_getElem hj2]
    have hwf := hw _ hm2
    have hb : 0 ≤ zs.getD j 0 ∧ zs.getD j 0 ≤ 255 := by simpa [Lit.wf, IntKind.min, IntKind.max, IntKind.signed, IntKind.bits] using hwf
    have e : ((List.range len).map (fun i => UInt8.ofNat (zs.getD i 0).toNat)).getD j 0 = UInt8.ofNat (zs.getD j 0).toNat := by simp [List.getD, hj]
    rw [e, UInt8.toNat_ofNat']
    congr 2
    omega
theorem lift_env {H : Type} {enc : TypeId × Value → H} {a : Assume} {C : Checked} {os : Os} {f : FuncId} {fn : Func} {s : ChangeSpec} {conds : List PathCond} {apart fresh handsOn again : Bool} {X : World → Array Value → Prop} (hX : ∀ w w' args, w.heap = w'.heap → X w args → X w' args)
    (own : ownKnob C.prog.godebug = none) (started : os.Started) (noInit : C.prog.inits.idxOf? f = none) (hfn : C.prog.funcs[f]? = some fn)
    (witness : ∃ (w : World) (tape : Tape) (i : Input), w.os = os ∧ (w.forCall tape i).Shaped C.prog ∧ i.vars = [] ∧ Input.okWide C.prog (w.forCall tape i) .any w.heap.size f i ∧
      ((s.pre enc C.prog fn conds apart (w.forCall tape i).memory i.args ∧ X (w.forCall tape i).memory i.args) ∧ sizedMet enc C.prog fn (OpenSpec.ofChange s) apart (w.forCall tape i).memory i.args) ∧ a.holds C.prog (lone (Frame.enter C.prog f i.args .normal) [] (w.forCall tape i)))
    (contract : ∀ (W : World) (base : Nat) (args : Array Value) (ds gs : List (DataW H)) (before : List MemPlace),
      (∀ (j : Nat) t v, fn.params[j]? = some t → args[j]? = some v → Value.okWide C.prog W .any base t v) →
      DataW.Whole enc C.prog fn.params.toList s.vars apart W args.toList ds gs before → W.ShapedOpen C.prog → X W args →
      Calls C.prog f args W fun e W' => ∃ v, e = .returned v ∧ s.post enc C.prog fn apart fresh handsOn again W args v W') :
    ReturnsInHanded a C os f .any (fun w args => (s.pre enc C.prog fn conds apart w args ∧ X w args) ∧ sizedMet enc C.prog fn (OpenSpec.ofChange s) apart w args) (s.post enc C.prog fn apart fresh handsOn again) := by
  refine returnsInHanded_of_calls own started noInit witness ?_
  intro w tape i _ hsh _ hok hpre _
  obtain ⟨_, _, _, fn', hfn', _, _, _, _, hval⟩ := hok
  have e : fn' = fn := Option.some.inj (hfn'.symm.trans hfn)
  subst e
  obtain ⟨⟨⟨ds, gs, before, hw, hc⟩, hx⟩, hz⟩ := hpre
  have hw' := DataW.Whole.of_heap (w' := w.forCall tape i) (by rfl) hw
  refine (contract (w.forCall tape i) w.heap.size i.args ds gs before hval hw' hsh (hX _ _ _ (by rfl) hx)).mono fun e W' ⟨v, he, hp⟩ => ?_
  subst he
  exact ChangeSpec.post_blind hp

/-! ### What the library's variables hold when a call begins -/
theorem gES : Tryz.prog.globalNamed "strconv.ErrSyntax" = some 4 := by kernel_rfl
theorem gER : Tryz.prog.globalNamed "strconv.ErrRange" = some 5 := by kernel_rfl
theorem tES : (Tryz.prog.globals[4]?).map (·.type) = some 156 := by kernel_rfl
theorem tER : (Tryz.prog.globals[5]?).map (·.type) = some 156 := by kernel_rfl
theorem c141 : Tryz.prog.cellsOf 243 = 1 := by kernel_rfl
theorem c9 : Tryz.prog.cellsOf 9 = 1 := by kernel_rfl
theorem starE : "*" ++ "errors.errorString" = "*errors.errorString" := by decide
theorem rowES (u : TypeId) (h : Tryz.prog.typeName? 3 u = some "*errors.errorString") : u = 241 :=
  typeName_ptr_named (nm := "errors.errorString") (by rw [starE]; kernel_rfl) (by kernel_rfl) (by decide) u (by rw [starE]; exact h)
theorem env_of {W : World} (hsh : W.ShapedOpen Tryz.prog) (h : laidMetH Tryz.prog Rows.exprTellsRow.laid W) : Ev W := by
  rw [MakeChecks.laidMetH_plain _ _ _ (by kernel_rfl)] at h
  have h2 := laidMet.tail (laidMet.tail h)
  have h4 := laidMet.tail (laidMet.tail h2)
  have h5 := laidMet.tail h4
  refine ⟨mx_of hsh, ?_, ?_, ?_⟩
  · obtain ⟨a0, s0, hv0, -, -, -⟩ := laid_sentinel h5 gES tES Tryz.underlying156 rowES Tryz.underlying241 Tryz.underlying243 rfl rfl Tryz.underlying9 c141 c9
    have h0 := World.var?_cell gES hv0 0
    exact ⟨_, by simpa using h0, Or.inr ⟨_, _, rfl⟩⟩
  · obtain ⟨a0, s0, hv0, -, -, -⟩ := laid_sentinel h4 gER tER Tryz.underlying156 rowES Tryz.underlying241 Tryz.underlying243 rfl rfl Tryz.underlying9 c141 c9
    have h0 := World.var?_cell gER hv0 0
    exact ⟨_, by simpa using h0, Or.inr ⟨_, _, rfl⟩⟩
  · exact Lib.tabIs_of_head (g := 0) (t := 205) (e := 117) (n := 20) (by kernel_rfl) (by kernel_rfl) Tryz.underlying205 Tryz.underlying117 (by kernel_rfl) (by kernel_rfl) h2
end Go.Proofs.YtkppcgimhnocdaaGreatDoor
/- So many, one within the other. -/
namespace Go.Proofs.YtkppcgimhnocdaaGreatDoor
open Go.RowKit

def opS (h : Nat) : Str := if h = 0 then [40] else if h = 1 then [45] else [115, 117, 109, 32, 40]
def sS (h : Nat) : Str := if h = 2 then [97] else [49]
def rp (o : Str) : Nat → Str
  | 0 => []
  | n + 1 => rp o n ++ o
def nT (h k : Nat) : Str := rp (opS h) k ++ sS h ++ (if h = 1 then [] else List.replicate k 41)
def nOK (h k : Nat) : Bool := if k ≤ 15 then psE (nT h k) == 0 && psA (nT h k) == 0 else psE (nT h k) == 72 && psA (nT h k) == 16 * (opS h).length
theorem nests0 : (List.range 30).all (nOK 0) = true := by kernel_rfl
theorem nests1 : (List.range 30).all (nOK 1) = true := by kernel_rfl
theorem nests2 : (List.range 30).all (nOK 2) = true := by kernel_rfl
theorem rp_len (o : Str) : ∀ n, (rp o n).length = n * o.length
  | 0 => by simp [rp]
  | n + 1 => by rw [rp, List.length_append, rp_len o n, Nat.succ_mul]
theorem nests_of {h k : Nat} (ha : (List.range 30).all (nOK h) = true) (hk : k < 30) : (k ≤ 15 → psE (nT h k) = 0 ∧ psA (nT h k) = 0) ∧ (¬ k ≤ 15 → psE (nT h k) = 72 ∧ psA (nT h k) = 16 * (opS h).length) := by
  have := List.all_eq_true.1 ha k (List.mem_range.2 hk)
  unfold nOK at this
  by_cases h15 : k ≤ 15
  · rw [if_pos h15, Bool.and_eq_true, beq_iff_eq, beq_iff_eq] at this
    exact ⟨fun _ => this, fun q => absurd h15 q⟩
  · rw [if_neg h15, Bool.and_eq_true, beq_iff_eq, beq_iff_eq] at this
    exact ⟨fun q => absurd q h15, fun _ => this⟩
theorem ix0 (W : World) : (Instr.index 48 (.agg #[.string ⟨#[40]⟩, .string ⟨#[45]⟩, .string ⟨#[115, 117, 109, 32, 40]⟩]) (.int .u8 0)).run Tryz.prog W = .ok (tx [40]) W := by kernel_rfl
theorem ix1 (W : World) : (Instr.index 48 (.agg #[.string ⟨#[40]⟩, .string ⟨#[45]⟩, .string ⟨#[115, 117, 109, 32, 40]⟩]) (.int .u8 1)).run Tryz.prog W = .ok (tx [45]) W := by kernel_rfl
theorem ix2 (W : World) : (Instr.index 48 (.agg #[.string ⟨#[40]⟩, .string ⟨#[45]⟩, .string ⟨#[115, 117, 109, 32, 40]⟩]) (.int .u8 2)).run Tryz.prog W = .ok (tx [115, 117, 109, 32, 40]) W := by kernel_rfl
set_option maxHeartbeats 8000000 in
set_option maxRecDepth 4000 in
theorem nestsL0 (n c : Int) (k : Nat) (_hn0 : 0 ≤ n) (_hn1 : n ≤ 255) (_hc0 : 0 ≤ c) (_hc1 : c ≤ 255) (hk : n.tmod 30 = k) (hk2 : k < 30) (hh : c.tmod 3 = (0 : Int)) (w : World) (he : Ev w) : Calls Tryz.prog 7 #[.int .u8 n, .int .u8 c] w fun e w' => e = .returned (.bool true) ∧ Below w.heap.size w w' := by
  have hkn := known_any w he
  have hix := ix0
  have HV : Hid _ := nests_of nests0 hk2
  go_enter Tryz.func7, Tryz.ntmps7
  go_wp2_with fail
  refine hkn.mono ?_
  rintro e w1 ⟨rfl, b1⟩
  go_upto_region 7 with fail
  go_wp2_with fail
  go_loopw [7, 9] (fun t i wr => ∃ j : Nat, j ≤ k ∧ t = tx (rp [40] j) ∧ i = .int .i64 j ∧ w1 = wr) (fun _ i _ => k - (intOf i).toNat)
  case atStart => exact ⟨0, by omega, rfl, rfl, rfl⟩
  case round =>
    obtain ⟨j, hj, rfl, rfl, rfl⟩ := hrel
    obtain ⟨R, HR⟩ : ∃ R : Str, Hid (R = rp [40] j) := ⟨rp [40] j, rfl⟩
    have hR : R.length ≤ 150 := by rw [HR.out, rp_len]; simp; omega
    rw [← HR.out]
    by_cases hlt : j < k
    · have hlt' : (j : Int) < k := by omega
      go_wp2_with (refine wp_add rfl 9 9 _ _ rfl _ _ rfl rfl (by simp; omega) ?_)
      go_roundw
      case rel => exact ⟨j + 1, by omega, by rw [HR.out]; rfl, by go_num, trivial⟩
      case measure => simp [intOf]; omega
    · have hlt' : ¬ (j : Int) < k := by omega
      have e : j = k := by omega
      obtain ⟨T, HB⟩ : ∃ T : Str, Hid (T = rp [40] k ++ [49]) := ⟨rp [40] k ++ [49], rfl⟩
      have HRT : Hid (R ++ [49] = T) := by show _ = _; rw [HR.out, HB.out, e]
      have hT : T.length ≤ 151 := by rw [← HRT.out]; simp; omega
      clear HR
      go_wp2_with (refine wp_add rfl 9 9 _ _ rfl _ _ rfl rfl (by simp; omega) ?_; rw [HRT.out])
      go_loopw [7, 10] (fun t i wr => ∃ j : Nat, j ≤ k ∧ t = tx (T ++ List.replicate j 41) ∧ i = .int .i64 j ∧ Below w.heap.size w wr) (fun _ i _ => k - (intOf i).toNat)
      case atStart => exact ⟨0, by omega, by simp, rfl, b1⟩
      case round =>
        obtain ⟨j, hj, rfl, rfl, B⟩ := hrel
        obtain ⟨U, HU⟩ : ∃ U : Str, Hid (U = T ++ List.replicate j 41) := ⟨T ++ List.replicate j 41, rfl⟩
        have hU : U.length ≤ 300 := by rw [HU.out]; simp; omega
        rw [← HU.out]
        by_cases hlt : j < k
        · have hlt' : (j : Int) < k := by omega
          go_wp2_with (refine wp_add rfl 9 9 _ _ rfl _ _ rfl rfl (by simp; omega) ?_)
          go_roundw
          case rel => exact ⟨j + 1, by omega, by rw [HU.out, List.append_assoc, List.replicate_succ'], by go_num, B⟩
          case measure => simp [intOf]; omega
        · have hlt' : ¬ (j : Int) < k := by omega
          have HT : Hid (U = nT 0 k) := by
            have e : j = k := by omega
            show _ = _
            rw [HU.out, HB.out, e]
            simp [nT, opS, sS]
          clear HU
          have hps := parse_any U wr (by omega) (he.later B)
          by_cases h15 : k ≤ 15
          · obtain ⟨e1, e2⟩ := HV.out.1 h15
            rw [← HT.out] at e1 e2
            rw [e1, e2] at hps
            have h15' : ¬ (15 : Int) < k := by omega
            clear e1 e2 HV h15 HT
            go_wp2_with fail
            refine hps.mono ?_
            rintro e w5 ⟨cs, rfl, t5, b5⟩
            have row := t5.row
            have q5 := heap_new w5 (.cells zE 29)
            have B5 := B.trans (b5.mono B.size)
            have zB := B5.size
            have Ba := bal B5 (.cells zE 29)
            clear hps
            go_wp2_with (refine wp_put rfl 29 _ _ rfl w5.heap.size cs rfl rfl _ 29 q5 13 inf29 rfl row ?_; intro w6 q6 o6 z6; clear z6)
            go_ret
            exact ⟨by simp, ((Off.of Ba []).trans o6 (by simp; omega)).below (by simp)⟩
          · obtain ⟨e1, e2⟩ := HV.out.2 h15
            rw [← HT.out] at e1 e2
            rw [e1, e2] at hps
            have h15' : (15 : Int) < k := by omega
            clear e1 e2 HV h15 HT
            go_wp2_with fail
            refine hps.mono ?_
            rintro e w5 ⟨cs, rfl, t5, b5⟩
            have row := t5.row
            have q5 := heap_new w5 (.cells zE 29)
            have B5 := B.trans (b5.mono B.size)
            have zB := B5.size
            have Ba := bal B5 (.cells zE 29)
            clear hps
            go_wp2_with (refine wp_put rfl 29 _ _ rfl w5.heap.size cs rfl rfl _ 29 q5 13 inf29 rfl row ?_; intro w6 q6 o6 z6; clear z6)
            go_ret
            exact ⟨by simp [opS], ((Off.of Ba []).trans o6 (by simp; omega)).below (by simp)⟩
set_option maxHeartbeats 8000000 in
set_option maxRecDepth 4000 in
theorem nestsL1 (n c : Int) (k : Nat) (_hn0 : 0 ≤ n) (_hn1 : n ≤ 255) (_hc0 : 0 ≤ c) (_hc1 : c ≤ 255) (hk : n.tmod 30 = k) (hk2 : k < 30) (hh : c.tmod 3 = (1 : Int)) (w : World) (he : Ev w) : Calls Tryz.prog 7 #[.int .u8 n, .int .u8 c] w fun e w' => e = .returned (.bool true) ∧ Below w.heap.size w w' := by
  have hkn := known_any w he
  have hix := ix1
  have HV : Hid _ := nests_of nests1 hk2
  go_enter Tryz.func7, Tryz.ntmps7
  go_wp2_with fail
  refine hkn.mono ?_
  rintro e w1 ⟨rfl, b1⟩
  go_upto_region 7 with fail
  go_wp2_with fail
  go_loopw [7, 9] (fun t i wr => ∃ j : Nat, j ≤ k ∧ t = tx (rp [45] j) ∧ i = .int .i64 j ∧ w1 = wr) (fun _ i _ => k - (intOf i).toNat)
  case atStart => exact ⟨0, by omega, rfl, rfl, rfl⟩
  case round =>
    obtain ⟨j, hj, rfl, rfl, rfl⟩ := hrel
    obtain ⟨R, HR⟩ : ∃ R : Str, Hid (R = rp [45] j) := ⟨rp [45] j, rfl⟩
    have hR : R.length ≤ 150 := by rw [HR.out, rp_len]; simp; omega
    rw [← HR.out]
    by_cases hlt : j < k
    · have hlt' : (j : Int) < k := by omega
      go_wp2_with (refine wp_add rfl 9 9 _ _ rfl _ _ rfl rfl (by simp; omega) ?_)
      go_roundw
      case rel => exact ⟨j + 1, by omega, by rw [HR.out]; rfl, by go_num, trivial⟩
      case measure => simp [intOf]; omega
    · have hlt' : ¬ (j : Int) < k := by omega
      have e : j = k := by omega
      obtain ⟨T, HB⟩ : ∃ T : Str, Hid (T = rp [45] k ++ [49]) := ⟨rp [45] k ++ [49], rfl⟩
      have HRT : Hid (R ++ [49] = T) := by show _ = _; rw [HR.out, HB.out, e]
      have hT : T.length ≤ 151 := by rw [← HRT.out]; simp; omega
      clear HR
      go_wp2_with (refine wp_add rfl 9 9 _ _ rfl _ _ rfl rfl (by simp; omega) ?_; rw [HRT.out])
      have HT : Hid (T = nT 1 k) := by show _ = _; rw [HB.out]; simp [nT, opS, sS]
      go_loopw [7, 10] (fun t i wr => t = tx T ∧ i = .int .i64 0 ∧ Below w.heap.size w wr) (fun _ _ _ => 0)
      case atStart => exact ⟨rfl, rfl, b1⟩
      case round =>
        obtain ⟨rfl, rfl, B⟩ := hrel
        by_cases hk0 : 0 < k
        · have hk0' : (0 : Int) < k := by omega
          have hps := parse_any T wr (by omega) (he.later B)
          by_cases h15 : k ≤ 15
          · obtain ⟨e1, e2⟩ := HV.out.1 h15
            rw [← HT.out] at e1 e2
            rw [e1, e2] at hps
            have h15' : ¬ (15 : Int) < k := by omega
            clear e1 e2 HV h15 HT
            go_wp2_with fail
            refine hps.mono ?_
            rintro e w5 ⟨cs, rfl, t5, b5⟩
            have row := t5.row
            have q5 := heap_new w5 (.cells zE 29)
            have B5 := B.trans (b5.mono B.size)
            have zB := B5.size
            have Ba := bal B5 (.cells zE 29)
            clear hps
            go_wp2_with (refine wp_put rfl 29 _ _ rfl w5.heap.size cs rfl rfl _ 29 q5 13 inf29 rfl row ?_; intro w6 q6 o6 z6; clear z6)
            go_ret
            exact ⟨by simp, ((Off.of Ba []).trans o6 (by simp; omega)).below (by simp)⟩
          · obtain ⟨e1, e2⟩ := HV.out.2 h15
            rw [← HT.out] at e1 e2
            rw [e1, e2] at hps
            have h15' : (15 : Int) < k := by omega
            clear e1 e2 HV h15 HT
            go_wp2_with fail
            refine hps.mono ?_
            rintro e w5 ⟨cs, rfl, t5, b5⟩
            have row := t5.row
            have q5 := heap_new w5 (.cells zE 29)
            have B5 := B.trans (b5.mono B.size)
            have zB := B5.size
            have Ba := bal B5 (.cells zE 29)
            clear hps
            go_wp2_with (refine wp_put rfl 29 _ _ rfl w5.heap.size cs rfl rfl _ 29 q5 13 inf29 rfl row ?_; intro w6 q6 o6 z6; clear z6)
            go_ret
            exact ⟨by simp [opS], ((Off.of Ba []).trans o6 (by simp; omega)).below (by simp)⟩
        · have hk0' : ¬ (0 : Int) < k := by omega
          have hps := parse_any T wr (by omega) (he.later B)
          by_cases h15 : k ≤ 15
          · obtain ⟨e1, e2⟩ := HV.out.1 h15
            rw [← HT.out] at e1 e2
            rw [e1, e2] at hps
            have h15' : ¬ (15 : Int) < k := by omega
            clear e1 e2 HV h15 HT
            go_wp2_with fail
            refine hps.mono ?_
            rintro e w5 ⟨cs, rfl, t5, b5⟩
            have row := t5.row
            have q5 := heap_new w5 (.cells zE 29)
            have B5 := B.trans (b5.mono B.size)
            have zB := B5.size
            have Ba := bal B5 (.cells zE 29)
            clear hps
            go_wp2_with (refine wp_put rfl 29 _ _ rfl w5.heap.size cs rfl rfl _ 29 q5 13 inf29 rfl row ?_; intro w6 q6 o6 z6; clear z6)
            go_ret
            exact ⟨by simp, ((Off.of Ba []).trans o6 (by simp; omega)).below (by simp)⟩
          · obtain ⟨e1, e2⟩ := HV.out.2 h15
            rw [← HT.out] at e1 e2
            rw [e1, e2] at hps
            have h15' : (15 : Int) < k := by omega
            clear e1 e2 HV h15 HT
            go_wp2_with fail
            refine hps.mono ?_
            rintro e w5 ⟨cs, rfl, t5, b5⟩
            have row := t5.row
            have q5 := heap_new w5 (.cells zE 29)
            have B5 := B.trans (b5.mono B.size)
            have zB := B5.size
            have Ba := bal B5 (.cells zE 29)
            clear hps
            go_wp2_with (refine wp_put rfl 29 _ _ rfl w5.heap.size cs rfl rfl _ 29 q5 13 inf29 rfl row ?_; intro w6 q6 o6 z6; clear z6)
            go_ret
            exact ⟨by simp [opS], ((Off.of Ba []).trans o6 (by simp; omega)).below (by simp)⟩
set_option maxHeartbeats 8000000 in
set_option maxRecDepth 4000 in
theorem nestsL2 (n c : Int) (k : Nat) (_hn0 : 0 ≤ n) (_hn1 : n ≤ 255) (_hc0 : 0 ≤ c) (_hc1 : c ≤ 255) (hk : n.tmod 30 = k) (hk2 : k < 30) (hh : c.tmod 3 = (2 : Int)) (w : World) (he : Ev w) : Calls Tryz.prog 7 #[.int .u8 n, .int .u8 c] w fun e w' => e = .returned (.bool true) ∧ Below w.heap.size w w' := by
  have hkn := known_any w he
  have hix := ix2
  have HV : Hid _ := nests_of nests2 hk2
  go_enter Tryz.func7, Tryz.ntmps7
  go_wp2_with fail
  refine hkn.mono ?_
  rintro e w1 ⟨rfl, b1⟩
  go_upto_region 7 with fail
  go_wp2_with fail
  go_loopw [7, 9] (fun t i wr => ∃ j : Nat, j ≤ k ∧ t = tx (rp [115, 117, 109, 32, 40] j) ∧ i = .int .i64 j ∧ w1 = wr) (fun _ i _ => k - (intOf i).toNat)
  case atStart => exact ⟨0, by omega, rfl, rfl, rfl⟩
  case round =>
    obtain ⟨j, hj, rfl, rfl, rfl⟩ := hrel
    obtain ⟨R, HR⟩ : ∃ R : Str, Hid (R = rp [115, 117, 109, 32, 40] j) := ⟨rp [115, 117, 109, 32, 40] j, rfl⟩
    have hR : R.length ≤ 150 := by rw [HR.out, rp_len]; simp; omega
    rw [← HR.out]
    by_cases hlt : j < k
    · have hlt' : (j : Int) < k := by omega
      go_wp2_with (refine wp_add rfl 9 9 _ _ rfl _ _ rfl rfl (by simp; omega) ?_)
      go_roundw
      case rel => exact ⟨j + 1, by omega, by rw [HR.out]; rfl, by go_num, trivial⟩
      case measure => simp [intOf]; omega
    · have hlt' : ¬ (j : Int) < k := by omega
      have e : j = k := by omega
      obtain ⟨T, HB⟩ : ∃ T : Str, Hid (T = rp [115, 117, 109, 32, 40] k ++ [97]) := ⟨rp [115, 117, 109, 32, 40] k ++ [97], rfl⟩
      have HRT : Hid (R ++ [97] = T) := by show _ = _; rw [HR.out, HB.out, e]
      have hT : T.length ≤ 151 := by rw [← HRT.out]; simp; omega
      clear HR
      go_wp2_with (refine wp_add rfl 9 9 _ _ rfl _ _ rfl rfl (by simp; omega) ?_; rw [HRT.out])
      go_loopw [7, 10] (fun t i wr => ∃ j : Nat, j ≤ k ∧ t = tx (T ++ List.replicate j 41) ∧ i = .int .i64 j ∧ Below w.heap.size w wr) (fun _ i _ => k - (intOf i).toNat)
      case atStart => exact ⟨0, by omega, by simp, rfl, b1⟩
      case round =>
        obtain ⟨j, hj, rfl, rfl, B⟩ := hrel
        obtain ⟨U, HU⟩ : ∃ U : Str, Hid (U = T ++ List.replicate j 41) := ⟨T ++ List.replicate j 41, rfl⟩
        have hU : U.length ≤ 300 := by rw [HU.out]; simp; omega
        rw [← HU.out]
        by_cases hlt : j < k
        · have hlt' : (j : Int) < k := by omega
          go_wp2_with (refine wp_add rfl 9 9 _ _ rfl _ _ rfl rfl (by simp; omega) ?_)
          go_roundw
          case rel => exact ⟨j + 1, by omega, by rw [HU.out, List.append_assoc, List.replicate_succ'], by go_num, B⟩
          case measure => simp [intOf]; omega
        · have hlt' : ¬ (j : Int) < k := by omega
          have HT : Hid (U = nT 2 k) := by
            have e : j = k := by omega
            show _ = _
            rw [HU.out, HB.out, e]
            simp [nT, opS, sS]
          clear HU
          have hps := parse_any U wr (by omega) (he.later B)
          by_cases h15 : k ≤ 15
          · obtain ⟨e1, e2⟩ := HV.out.1 h15
            rw [← HT.out] at e1 e2
            rw [e1, e2] at hps
            have h15' : ¬ (15 : Int) < k := by omega
            clear e1 e2 HV h15 HT
            go_wp2_with fail
            refine hps.mono ?_
            rintro e w5 ⟨cs, rfl, t5, b5⟩
            have row := t5.row
            have q5 := heap_new w5 (.cells zE 29)
            have B5 := B.trans (b5.mono B.size)
            have zB := B5.size
            have Ba := bal B5 (.cells zE 29)
            clear hps
            go_wp2_with (refine wp_put rfl 29 _ _ rfl w5.heap.size cs rfl rfl _ 29 q5 13 inf29 rfl row ?_; intro w6 q6 o6 z6; clear z6)
            go_ret
            exact ⟨by simp, ((Off.of Ba []).trans o6 (by simp; omega)).below (by simp)⟩
          · obtain ⟨e1, e2⟩ := HV.out.2 h15
            rw [← HT.out] at e1 e2
            rw [e1, e2] at hps
            have h15' : (15 : Int) < k := by omega
            clear e1 e2 HV h15 HT
            go_wp2_with fail
            refine hps.mono ?_
            rintro e w5 ⟨cs, rfl, t5, b5⟩
            have row := t5.row
            have q5 := heap_new w5 (.cells zE 29)
            have B5 := B.trans (b5.mono B.size)
            have zB := B5.size
            have Ba := bal B5 (.cells zE 29)
            clear hps
            go_wp2_with (refine wp_put rfl 29 _ _ rfl w5.heap.size cs rfl rfl _ 29 q5 13 inf29 rfl row ?_; intro w6 q6 o6 z6; clear z6)
            go_ret
            exact ⟨by simp [opS], ((Off.of Ba []).trans o6 (by simp; omega)).below (by simp)⟩
theorem nests_any (n c : Nat) (w : World) (hn : n ≤ 255) (hc : c ≤ 255) (he : Ev w) : Calls Tryz.prog 7 #[.int .u8 n, .int .u8 c] w fun e w' => e = .returned (.bool true) ∧ Below w.heap.size w w' := by
  have hk : (n : Int).tmod 30 = ((n % 30 : Nat) : Int) := by rw [Int.tmod_eq_emod_of_nonneg (by omega)]; omega
  have h3 : (c : Int).tmod 3 = ((c % 3 : Nat) : Int) := by rw [Int.tmod_eq_emod_of_nonneg (by omega)]; omega
  rcases (by omega : c % 3 = 0 ∨ c % 3 = 1 ∨ c % 3 = 2) with e | e | e
  · exact nestsL0 n c (n % 30) (by omega) (by omega) (by omega) (by omega) hk (by omega) (by rw [h3, e]; rfl) w he
  · exact nestsL1 n c (n % 30) (by omega) (by omega) (by omega) (by omega) hk (by omega) (by rw [h3, e]; rfl) w he
  · exact nestsL2 n c (n % 30) (by omega) (by omega) (by omega) (by omega) hk (by omega) (by rw [h3, e]; rfl) w he
end Go.Proofs.YtkppcgimhnocdaaGreatDoor
/- ExprNests: for every input the law returns true, and its arguments read as they did: the row, and its card, tied to the program's text. Conditions: none beyond the card's own. -/
namespace Go.Proofs.YtkppcgimhnocdaaGreatDoor.exprNestsRow
open Go.ChangeShapes Go.WideShapes Go.ChangeAt Go.RowKit Go.Joins Go.ChangeMaps

theorem own : ownKnob Tryz.prog.godebug = none := by kernel_rfl
set_option maxRecDepth 100000 in
theorem lifted (os : Os) (started : os.Started) (H : Type) (enc : TypeId × Value → H) :
    ReturnsInHanded {} Tryz.checked os 7 .any (fun w args => (Rows.exprNestsSpec.pre enc Tryz.prog Tryz.f7 Rows.exprNestsRow.domain false w args ∧ laidMetH Tryz.prog Rows.exprNestsRow.laid w) ∧ sizedMet enc Tryz.prog Tryz.f7 (OpenSpec.ofChange Rows.exprNestsSpec) false w args)
      (Rows.exprNestsSpec.post enc Tryz.prog Tryz.f7 false true false false) := by
  refine lift_env (fun _ _ _ hh h => h.of_heap hh) (C := Tryz.checked) (X := fun w _ => laidMetH Tryz.prog Rows.exprNestsRow.laid w) own started (by kernel_rfl) Tryz.func7
    (ChangeSpec.witness_shaped (enc := enc) (C := Tryz.checked) (os := os) (X := fun w _ => laidMetH Tryz.prog Rows.exprNestsRow.laid w) false (World.laidAll Tryz.prog os Rows.exprNestsRow.laid) #[.int .u8 0, .int .u8 0] 8 (World.laidAll_os _ _ _)
      (World.shaped_of_ZipB (by kernel_rfl) (by kernel_rfl)) (by kernel_rfl) (by kernel_rfl) (by kernel_rfl)
      (by rw [MakeChecks.laidMetH_plain _ _ _ (by kernel_rfl)]; exact laidMet_laidAll _ (by kernel_rfl) (by kernel_rfl))) ?_
  intro W base args ds gs before hval0 hW hsh hL
  have hval : ∀ (j : Nat) t v, Tryz.f7.params[j]? = some t → args[j]? = some v → Value.okWide Tryz.prog W .any base t v := hval0
  have hW' := hW
  obtain ⟨p, q, hA0, hV, rfl, hfz, hnd⟩ := hW
  have hA : DataW.TrodAll enc Tryz.prog W 0 (fun _ => true) true Tryz.f7.params.toList args.toList ds p := hA0
  rw [Tryz.params7] at hA hval
  obtain ⟨v0, vs0, d0, ds0, p0, q0, hargs, rfl, rfl, h0, r0⟩ := trodAll_cons hA
  obtain ⟨v1, vs1, d1, ds1, p1, q1, rfl, rfl, rfl, h1, r1⟩ := trodAll_cons r0
  obtain ⟨rfl, rfl, rfl⟩ := trodAll_nil r1
  obtain rfl : args = #[v0, v1] := by cases args; simp_all
  obtain ⟨rfl, rfl⟩ := trodVars_none hV
  obtain ⟨n0, rfl, rfl, rfl, w0⟩ := open_int Tryz.underlying5 (hval 0 5 v0 rfl rfl) h0
  have b0 : 0 ≤ n0 ∧ n0 ≤ 255 := by simpa [Lit.wf, IntKind.min, IntKind.max, IntKind.signed, IntKind.bits] using w0
  obtain ⟨N0, rfl⟩ : ∃ N : Nat, n0 = N := ⟨n0.toNat, by omega⟩
  obtain ⟨n1, rfl, rfl, rfl, w1⟩ := open_int Tryz.underlying5 (hval 1 5 v1 rfl rfl) h1
  have b1 : 0 ≤ n1 ∧ n1 ≤ 255 := by simpa [Lit.wf, IntKind.min, IntKind.max, IntKind.signed, IntKind.bits] using w1
  obtain ⟨N1, rfl⟩ : ∃ N : Nat, n1 = N := ⟨n1.toNat, by omega⟩
  clear hA0 hval0
  simp only [List.append_nil] at hW'
  refine (nests_any N0 N1 W (by omega) (by omega)   (env_of hsh hL)).mono fun e W' ⟨he, hg⟩ => ?_
  subst he
  exact ⟨_, rfl, _, _, _, [], [], [], hW', trodAll_mk1 (shut_bool Tryz.underlying4 _), (trodAll_cons_mk (shut_int Tryz.underlying5 w0) (trodAll_cons_mk (shut_int Tryz.underlying5 w1) trodAll_mk0)), rfl, hg.frame _, fun h => by cases h⟩

theorem holds : Rows.ExprNestsSaid :=
  OpenClaim.holds_of_wide 7 Tryz.f7 rfl rfl rfl rfl rfl rfl rfl ⟨rfl, rfl, rfl, rfl, rfl⟩ rfl rfl rfl rfl rfl (by kernel_rfl) Tryz.func7 (by kernel_rfl)
    (of_decide_eq_true (by kernel_rfl)) (by unfold Func.isWrapper; first | (rw [if_pos (by decide +kernel)]; kernel_rfl) | (rw [if_neg (by decide +kernel)]; exact ⟨rfl, rfl⟩))
    (fun os started H enc _ => lifted os started H enc)
end Go.Proofs.YtkppcgimhnocdaaGreatDoor.exprNestsRow
namespace Go.Proofs.YtkppcgimhnocdaaGreatDoor
open Go
theorem exprNests_card : Rows.ExprNestsCardSaid :=
  Claim7.holds_tied_plain_at .later [] [.data, .data, .data, .data, .sentinel, .sentinel, .pinned] true (true, "c1cea7cbe15cbc77f432ea533c39a2743800b6a3c2a517e17a640eef7bc342ac") true exprNestsRow.holds (fun _ h => by cases h) (by kernel_rfl) (fun _ h => by cases h) exprNests_row_tie rfl ⟨rfl, rfl⟩ (by kernel_rfl) rfl
    (fun f fn hf hfn => by
      obtain rfl : f = 7 := Option.some.inj ((show Tryz.prog.funcNamed "spillway/spillwaylaw8.ExprNests" = some 7 by kernel_rfl).symm.trans hf) |>.symm
      obtain rfl : fn = Tryz.f7 := (Option.some.inj (Tryz.func7.symm.trans hfn)).symm
      exact ⟨by kernel_rfl, fun j t ht => by
        rw [Tryz.params7] at ht
        have hm : t ∈ [5, 5] := by simpa using Array.mem_of_getElem? ht
        have hall : ([5, 5].all fun u => !Tryz.prog.wantsStandIn u) = true := by kernel_rfl
        exact (show Tryz.prog.wantsStandIn t = false by simpa using List.all_eq_true.1 hall t hm)⟩)
    (by kernel_rfl)
end Go.Proofs.YtkppcgimhnocdaaGreatDoor
