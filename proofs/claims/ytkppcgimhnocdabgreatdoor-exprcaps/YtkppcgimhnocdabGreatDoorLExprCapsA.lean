/- ExprCaps: for every input the law returns true, and its arguments read as they did: the row, and its card, tied to the program's text. Conditions: none beyond the card's own. -/
import Derived.Test.YtkppcgimhnocdabGreatDoorMB
import Derived.Test.YtkppcgimhnocdabGreatDoorRows
import Derived.ProofKit
import Derived.OpenShut
import Derived.LaidMore
import Derived.Lay
import Derived.SevenTiedAt
import Derived.Stop.Joined
import Derived.Lib.SmallJoins
import Derived.Lib.LaidTab
import Derived.Stop.LaidErr
import Derived.ChangeMaps5
import Derived.Deep.SlicePairs
import Derived.SliceStrings
import Derived.HandedShaped
import Derived.Shelf.Vars
import Derived.Test.YtkppcgimhnocdabGreatDoorMS
import Derived.Test.YtkppcgimhnocdabGreatDoorMAF
import Derived.Test.YtkppcgimhnocdabGreatDoorTie
import Derived.Test.YtkppcgimhnocdabGreatDoorCards
/- What is handed in: slices of texts, of bytes out of their readings; what the library's variables hold when a call begins. -/
namespace Go.Proofs.YtkppcgimhnocdabGreatDoor
open Go.ChangeShapes Go.WideShapes Go.ChangeAt Go.RowKit Go.Deep

theorem laidOut : laidOutB Tryz.prog = true := by kernel_rfl
theorem mx_of {W : World} (h : W.ShapedOpen Tryz.prog) : Mx W :=
  cell_of_shapedOpen_int (g := 3) (t := 3) (zero := #[.int .i64 0]) (k := .i64) h (of_decide_eq_true (by kernel_rfl)) (by kernel_rfl) rfl (by kernel_rfl) (by kernel_rfl) Tryz.underlying3
theorem tx_of (s : ByteArray) : ∃ l : Str, (⟨l.toArray⟩ : ByteArray) = s ∧ l.length = s.size := ⟨s.data.toList, Lib.mk_data s, by rw [Array.length_toList]; rfl⟩
def Ns (w : World) (ao : Option Addr) (n : Nat) (l : List UInt8) : Prop :=
  l.length = n ∧ (0 < n → ∃ b off, ao = some ⟨b, off, none⟩ ∧ ∀ j, j < n → w.cell? ⟨b, off + j, none⟩ = some (.int .u8 (l.getD j 0).toNat))
theorem bytes_of {H : Type} {enc : TypeId × Value → H} {W : World} {xa : Option Addr} {len cap : Nat} {x : DataW H × List MemPlace}
    (h : ∃ fuel, DataW.trod enc Tryz.prog W 0 (fun _ => true) true fuel 44 (Value.slice xa len cap).cells.toList = some x) :
    ∃ l, Ns W xa len l ∧ len ≤ 9223372036854775807 := by
  obtain ⟨fuel, hf⟩ := h
  rcases open_ints Tryz.underlying44 Tryz.underlying5 (by kernel_rfl) hf with ⟨hcs, hx⟩ | ⟨a, len', cap', zs, hcs, _, hl, hm, hlen, hx, hel, hw⟩
  · simp [Value.cells] at hcs
    obtain ⟨rfl, rfl, rfl⟩ := hcs
    exact ⟨[], ⟨rfl, fun h => by omega⟩, by omega⟩
  · simp [Value.cells] at hcs
    obtain ⟨rfl, rfl, rfl⟩ := hcs
    have hss : len ≤ zs.length := by rw [hlen]; split <;> omega
    refine ⟨(List.range len).map (fun i => UInt8.ofNat (zs.getD i 0).toNat), ⟨by simp, fun hp => ?_⟩, by unfold maxLen at hm; omega⟩
    obtain ⟨b, off, spot⟩ := a
    have hc := hel 0 (by omega)
    have hspot : spot = none := by simpa [Addr.add] using World.cell?_spot hc
    subst hspot
    refine ⟨b, off, rfl, fun j hj => ?_⟩
    have q0 := hel j (by omega)
    rw [Addr.add_lit] at q0
    rw [q0]
    have hm2 : zs.getD j 0 ∈ zs := by
      have hj2 : j < zs.length := by omega
      simp [List.getD, List.getElem?_eq_getElem hj2]
    have hwf := hw _ hm2
    have hb : 0 ≤ zs.getD j 0 ∧ zs.getD j 0 ≤ 255 := by simpa [Lit.wf, IntKind.min, IntKind.max, IntKind.signed, IntKind.bits] using hwf
    have e : ((List.range len).map (fun i => UInt8.ofNat (zs.getD i 0).toNat)).getD j 0 = UInt8.ofNat (zs.getD j 0).toNat := by simp [List.getD, hj]
    rw [e, UInt8.toNat_ofNat']
    congr 2
    omega
theorem lift_env {H : Type} {enc : TypeId × Value → H} {a : Assume} {C : Checked} {os : Os} {f : FuncId} {fn : Func} {s : ChangeSpec} {conds : List PathCond} {apart fresh handsOn again : Bool} {X : World → Array Value → Prop} (hX : ∀ w w' args, w.heap = w'.heap → X w args → X w' args)
    (own : ownKnob C.prog.godebug = none) (started : os.Started) (noInit : C.prog.inits.idxOf? f = none) (hfn : C.prog.funcs[f]? = some fn)
    (witness : ∃ (w : World) (tape : Tape) (i : Input), w.os = os ∧ (w.forCall tape i).Shaped C.prog ∧ i.vars = [] ∧ Input.okWide C.prog (w.forCall tape i) .any w.heap.size f i ∧
      ((s.pre enc C.prog fn conds apart (w.forCall tape i).memory i.args ∧ X (w.forCall tape i).memory i.args) ∧ sizedMet enc C.prog fn (OpenSpec.ofChange s) apart (w.forCall tape i).memory i.args) ∧ a.holds C.prog (lone (Frame.enter C.prog f i.args .normal) [] (w.forCall tape i)))
    (contract : ∀ (W : World) (base : Nat) (args : Array Value) (ds gs : List (DataW H)) (before : List MemPlace),
      (∀ (j : Nat) t v, fn.params[j]? = some t → args[j]? = some v → Value.okWide C.prog W .any base t v) →
      DataW.Whole enc C.prog fn.params.toList s.vars apart W args.toList ds gs before → W.ShapedOpen C.prog → X W args →
      Calls C.prog f args W fun e W' => ∃ v, e = .returned v ∧ s.post enc C.prog fn apart fresh handsOn again W args v W') :
    ReturnsInHanded a C os f .any (fun w args => (s.pre enc C.prog fn conds apart w args ∧ X w args) ∧ sizedMet enc C.prog fn (OpenSpec.ofChange s) apart w args) (s.post enc C.prog fn apart fresh handsOn again) := by
  refine returnsInHanded_of_calls own started noInit witness ?_
  intro w tape i _ hsh _ hok hpre _
  obtain ⟨_, _, _, fn', hfn', _, _, _, _, hval⟩ := hok
  have e : fn' = fn := Option.some.inj (hfn'.symm.trans hfn)
  subst e
  obtain ⟨⟨⟨ds, gs, before, hw, hc⟩, hx⟩, hz⟩ := hpre
  have hw' := DataW.Whole.of_heap (w' := w.forCall tape i) (by rfl) hw
  refine (contract (w.forCall tape i) w.heap.size i.args ds gs before hval hw' hsh (hX _ _ _ (by rfl) hx)).mono fun e W' ⟨v, he, hp⟩ => ?_
  subst he
  exact ChangeSpec.post_blind hp

/-! ### What the library's variables hold when a call begins -/
theorem gES : Tryz.prog.globalNamed "strconv.ErrSyntax" = some 4 := by kernel_rfl
theorem gER : Tryz.prog.globalNamed "strconv.ErrRange" = some 5 := by kernel_rfl
theorem tES : (Tryz.prog.globals[4]?).map (·.type) = some 124 := by kernel_rfl
theorem tER : (Tryz.prog.globals[5]?).map (·.type) = some 124 := by kernel_rfl
theorem c141 : Tryz.prog.cellsOf 209 = 1 := by kernel_rfl
theorem c9 : Tryz.prog.cellsOf 9 = 1 := by kernel_rfl
theorem starE : "*" ++ "errors.errorString" = "*errors.errorString" := by decide
theorem rowES (u : TypeId) (h : Tryz.prog.typeName? 3 u = some "*errors.errorString") : u = 207 :=
  typeName_ptr_named (nm := "errors.errorString") (by rw [starE]; kernel_rfl) (by kernel_rfl) (by decide) u (by rw [starE]; exact h)
theorem env_of {W : World} (hsh : W.ShapedOpen Tryz.prog) (h : laidMetH Tryz.prog Rows.exprCapsRow.laid W) : Ev W := by
  rw [MakeChecks.laidMetH_plain _ _ _ (by kernel_rfl)] at h
  have h2 := laidMet.tail (laidMet.tail h)
  have h4 := laidMet.tail (laidMet.tail h2)
  have h5 := laidMet.tail h4
  refine ⟨mx_of hsh, ?_, ?_, ?_⟩
  · obtain ⟨a0, s0, hv0, -, -, -⟩ := laid_sentinel h5 gES tES Tryz.underlying124 rowES Tryz.underlying207 Tryz.underlying209 rfl rfl Tryz.underlying9 c141 c9
    have h0 := World.var?_cell gES hv0 0
    exact ⟨_, by simpa using h0, Or.inr ⟨_, _, rfl⟩⟩
  · obtain ⟨a0, s0, hv0, -, -, -⟩ := laid_sentinel h4 gER tER Tryz.underlying124 rowES Tryz.underlying207 Tryz.underlying209 rfl rfl Tryz.underlying9 c141 c9
    have h0 := World.var?_cell gER hv0 0
    exact ⟨_, by simpa using h0, Or.inr ⟨_, _, rfl⟩⟩
  · exact Lib.tabIs_of_head (g := 2) (t := 189) (e := 24) (n := 20) (by kernel_rfl) (by kernel_rfl) Tryz.underlying189 Tryz.underlying24 (by kernel_rfl) (by kernel_rfl) h2
end Go.Proofs.YtkppcgimhnocdabGreatDoor
/- So many names, one more not: plain facts. -/
namespace Go.Proofs.YtkppcgimhnocdabGreatDoor
open Go.RowKit

def cD (i : Nat) : Str := if i < 10 then [UInt8.ofNat (48 + i)] else [49, UInt8.ofNat (38 + i)]
def cI (h : Nat) (c : Str) : Str := [120] ++ c ++ (if h = 0 then [61, 34, 34] else [])
/-- The first so many items. -/
def cS (h : Nat) (tw : Bool) (k : Nat) : Nat → Str
  | 0 => []
  | j + 1 => cS h tw k j ++ (if 0 < j then [44] else []) ++ cI h (if tw = true ∧ j + 1 = k then [48] else cD j)
def cT (h : Nat) (s : Str) : Str := if h = 0 then [123] ++ s ++ [125] else if h = 1 then [115, 117, 109, 32, 98, 121, 32, 40] ++ s ++ [41, 32, 40, 97, 41] else [97, 32, 43, 32, 111, 110, 32, 40] ++ s ++ [41, 32, 98]
def cGood (h : Nat) (tw : Bool) (k : Nat) : Bool := decide (k ≤ 8) && (h == 0 || !tw || k == 1)
def cX (h : Nat) (tw : Bool) (k : Nat) : Str := cT h (cS h tw k k)
def cOK (h : Nat) (tw : Bool) (k : Nat) : Bool := if cGood h tw k then psE (cX h tw k) == 0 else psE (cX h tw k) == 32 && decide (0 ≤ psA (cX h tw k)) && decide (psA (cX h tw k) < (cX h tw k).length) && ((cX h tw k).getD (psA (cX h tw k)).toNat 0 == 41 || (cX h tw k).getD (psA (cX h tw k)).toNat 0 == 125)
def cAll (h : Nat) (tw : Bool) : Bool := (List.range 12).all fun j => cOK h tw (j + 1)
theorem caps0 : cAll 0 false = true := by kernel_rfl
theorem caps1 : cAll 0 true = true := by kernel_rfl
theorem caps2 : cAll 1 false = true := by kernel_rfl
theorem caps3 : cAll 1 true = true := by kernel_rfl
theorem caps4 : cAll 2 false = true := by kernel_rfl
theorem caps5 : cAll 2 true = true := by kernel_rfl
theorem caps_all (h : Nat) (tw : Bool) (k : Nat) (hh : h ≤ 2) (hk : 1 ≤ k) (hk2 : k ≤ 12) : cOK h tw k = true := by
  have ha : cAll h tw = true := by
    match h, tw, hh with
    | 0, false, _ => exact caps0
    | 0, true, _ => exact caps1
    | 1, false, _ => exact caps2
    | 1, true, _ => exact caps3
    | 2, false, _ => exact caps4
    | 2, true, _ => exact caps5
  have := List.all_eq_true.1 ha (k - 1) (List.mem_range.2 (by omega))
  rwa [show k - 1 + 1 = k by omega] at this
theorem cD_len (i : Nat) : (cD i).length ≤ 2 := by unfold cD; split <;> simp
theorem cS_len (h : Nat) (tw : Bool) (k : Nat) : ∀ j, (cS h tw k j).length ≤ 7 * j
  | 0 => by simp [cS]
  | j + 1 => by
    have := cS_len h tw k j
    have := cD_len j
    rw [cS]
    unfold cI
    simp
    split <;> split <;> split <;> simp <;> omega
end Go.Proofs.YtkppcgimhnocdabGreatDoor
/- Numbers by their reference: the texts that the others lean on, in one. -/
/- Cmp: for every argument. -/
namespace Go.Proofs.YtkppcgimhnocdabGreatDoor.Fx
open Go.RowKit

end Go.Proofs.YtkppcgimhnocdabGreatDoor.Fx
/- scaled, Of, and the document's own signed, over: each for every argument. -/
namespace Go.Proofs.YtkppcgimhnocdabGreatDoor.Fx
open Go.RowKit

/-- a times b over c, with a sign. -/
def fScale (neg : Bool) (a b c : Nat) : Option Int := if c = 0 then none else sgn neg (a * b / c)
theorem sgn_big {neg : Bool} {m : Nat} (h : 9223372036854775807 < m) : sgn neg m = none := by unfold sgn; rw [if_pos h]
theorem scale_over {neg : Bool} {a b c : Nat} (h : c ≤ a * b / 18446744073709551616) : fScale neg a b c = none := by
  unfold fScale
  by_cases hc : c = 0
  · rw [if_pos hc]
  · rw [if_neg hc]
    refine sgn_big ?_
    have h1 := (Nat.le_div_iff_mul_le (by omega : 0 < 18446744073709551616)).1 h
    rw [Nat.mul_comm] at h1
    have := (Nat.le_div_iff_mul_le (by omega : 0 < c)).2 h1
    omega
theorem quot_lt {a b c : Nat} (h : ¬ c ≤ a * b / 18446744073709551616) : a * b / c < 18446744073709551616 := by
  have h1 : a * b / 18446744073709551616 < c := by omega
  rw [Nat.div_lt_iff_lt_mul (by omega)] at h1
  rw [Nat.div_lt_iff_lt_mul (by omega)]
  omega

theorem sgn_pos (m : Nat) : sgn false m = norm (m : Int) := by
  unfold sgn norm
  by_cases h : 9223372036854775807 < m
  · rw [if_pos h, if_neg (by omega)]
  · rw [if_neg h]
    show some (m : Int) = _
    rw [if_pos (by omega)]
theorem sgn_neg (m : Nat) : sgn true m = norm (-(m : Int)) := by
  unfold sgn norm
  by_cases h : 9223372036854775807 < m
  · rw [if_pos h, if_neg (by omega)]
  · rw [if_neg h]
    show some (-(m : Int)) = _
    rw [if_pos (by omega)]
def fOf (n : Int) : Option Int := norm (n * 1000000)
theorem scale_of (n : Int) : fScale (decide (n < 0)) n.natAbs 1000000 1 = fOf n := by
  unfold fScale fOf
  rw [if_neg (by omega), Nat.div_one]
  by_cases h : n < 0
  · rw [decide_eq_true h, sgn_neg]
    congr 1
    omega
  · rw [decide_eq_false h, sgn_pos]
    congr 1
    omega

end Go.Proofs.YtkppcgimhnocdabGreatDoor.Fx
/- Mul, Div: each for every argument. -/
namespace Go.Proofs.YtkppcgimhnocdabGreatDoor.Fx
open Go.RowKit

theorem abs_lt {a : Int} (h : R64 a) : a.natAbs < 18446744073709551616 := by have := h.1; have := h.2; omega
theorem sgn_tdiv (a b : Int) (k : Nat) : sgn (decide (a < 0) != decide (b < 0)) (a.natAbs * b.natAbs / k) = norm ((a * b).tdiv k) := by
  have hp : ∀ A B : Nat, ((A : Int) * (B : Int)).tdiv k = ((A * B / k : Nat) : Int) := fun A B => by
    rw [← Int.natCast_mul]
    rfl
  rcases Int.lt_or_le a 0 with ha | ha <;> rcases Int.lt_or_le b 0 with hb | hb
  · obtain ⟨A, rfl⟩ : ∃ A : Nat, a = -(A : Int) := ⟨a.natAbs, by omega⟩
    obtain ⟨B, rfl⟩ : ∃ B : Nat, b = -(B : Int) := ⟨b.natAbs, by omega⟩
    rw [decide_eq_true ha, decide_eq_true hb, Int.neg_mul_neg, hp, Int.natAbs_neg, Int.natAbs_neg, Int.natAbs_natCast, Int.natAbs_natCast]
    exact sgn_pos _
  · obtain ⟨A, rfl⟩ : ∃ A : Nat, a = -(A : Int) := ⟨a.natAbs, by omega⟩
    obtain ⟨B, rfl⟩ : ∃ B : Nat, b = (B : Int) := ⟨b.natAbs, by omega⟩
    rw [decide_eq_true ha, decide_eq_false (by omega), Int.neg_mul, Int.neg_tdiv, hp, Int.natAbs_neg, Int.natAbs_natCast, Int.natAbs_natCast]
    exact sgn_neg _
  · obtain ⟨A, rfl⟩ : ∃ A : Nat, a = (A : Int) := ⟨a.natAbs, by omega⟩
    obtain ⟨B, rfl⟩ : ∃ B : Nat, b = -(B : Int) := ⟨b.natAbs, by omega⟩
    rw [decide_eq_false (by omega), decide_eq_true hb, Int.mul_neg, Int.neg_tdiv, hp, Int.natAbs_neg, Int.natAbs_natCast, Int.natAbs_natCast]
    exact sgn_neg _
  · obtain ⟨A, rfl⟩ : ∃ A : Nat, a = (A : Int) := ⟨a.natAbs, by omega⟩
    obtain ⟨B, rfl⟩ : ∃ B : Nat, b = (B : Int) := ⟨b.natAbs, by omega⟩
    rw [decide_eq_false (by omega), decide_eq_false (by omega), hp, Int.natAbs_natCast, Int.natAbs_natCast]
    exact sgn_pos _
theorem scale_mul (a b : Int) : fScale (decide (a < 0) != decide (b < 0)) a.natAbs b.natAbs 1000000 = fMul (some a) (some b) := by
  unfold fScale
  rw [if_neg (by omega)]
  exact sgn_tdiv a b 1000000
theorem scale_div (a b : Int) : fScale (decide (a < 0) != decide (b < 0)) a.natAbs 1000000 b.natAbs = fDiv (some a) (some b) := by
  unfold fScale
  show _ = if b = 0 then none else _
  by_cases h : b = 0
  · rw [if_pos h, if_pos (by omega)]
  · rw [if_neg h, if_neg (by omega)]
    rcases Int.lt_or_le b 0 with hb | hb
    · obtain ⟨B, rfl⟩ : ∃ B : Nat, b = -(B : Int) := ⟨b.natAbs, by omega⟩
      have e := sgn_tdiv (-a) 1000000 B
      rw [Int.natAbs_neg, Int.neg_mul, Int.neg_tdiv] at e
      rw [Int.tdiv_neg, ← e, Int.natAbs_neg, Int.natAbs_natCast, decide_eq_true hb]
      by_cases h0 : a = 0
      · subst h0
        simp [sgn]
      · congr 1
        rcases Int.lt_or_le a 0 with ha | ha
        · rw [decide_eq_true ha, decide_eq_false (by omega)]
          rfl
        · rw [decide_eq_false (by omega), decide_eq_true (by omega)]
          rfl
    · obtain ⟨B, rfl⟩ : ∃ B : Nat, b = (B : Int) := ⟨b.natAbs, by omega⟩
      have e := sgn_tdiv a 1000000 B
      rw [← e, Int.natAbs_natCast, decide_eq_false (by omega : ¬ (B : Int) < 0)]
      rfl

end Go.Proofs.YtkppcgimhnocdabGreatDoor.Fx
/- known: the document's own examples come out as they are told. -/
namespace Go.Proofs.YtkppcgimhnocdabGreatDoor.Fx
open Go.RowKit

theorem ex_parse1 : fParse [45, 48, 46, 53] = some (some (-500000)) := by decide +kernel
theorem ex_parse2 : fParse [48, 49] = none := by decide +kernel
theorem ex_of1 : fOf 1 = some 1000000 := by decide +kernel
theorem ex_of3 : fOf 3 = some 3000000 := by decide +kernel
theorem ex_div : fDiv (some 1000000) (some 3000000) = some 333333 := by decide +kernel
theorem dec7 : Lib.decDigits 1333333 = [49, 51, 51, 51, 51, 51, 51] := by
  simp [Lib.decDigits]
theorem ex_print : fPrint (some 333333) = [48, 46, 51, 51, 51, 51, 51, 51] := by
  have e1 : Lib.decDigits 0 = [48] := by simp [Lib.decDigits]
  have e2 : fracT 333333 = [51, 51, 51, 51, 51, 51] := by
    unfold fracT
    rw [dec7]
    decide +kernel
  show (if (333333 : Int) < 0 then [45] else []) ++ prU 333333 = _
  unfold prU
  rw [if_neg (by decide), if_neg (by decide)]
  rw [show 333333 / 1000000 = 0 from rfl, show 333333 % 1000000 = 333333 from rfl, e1, e2]
  rfl
theorem ex_cnt (n : Int) (h : -9223372036854775807 ≤ n) : cnt false n = some n := by
  unfold cnt
  rw [if_neg (by intro e; rcases e with e | e; cases e; omega)]

theorem known_parse1 (w : World) : Calls Tryz.prog 98 #[.string ⟨#[45, 48, 46, 53]⟩] w fun e w' => e = .returned (.tuple #[.agg #[.bool false, .int .i64 (-500000)], .int .i64 0]) ∧ Below w.heap.size w w' := by
  have h := parse_any [45, 48, 46, 53] w (by decide)
  rw [ex_parse1] at h
  exact h
theorem known_parse2 (w : World) : Calls Tryz.prog 98 #[.string ⟨#[48, 49]⟩] w fun e w' => e = .returned (.tuple #[.agg #[.bool false, .int .i64 0], .int .i64 20]) ∧ Below w.heap.size w w' := by
  have h := parse_any [48, 49] w (by decide)
  rw [ex_parse2] at h
  exact h
theorem known_print (w : World) (ht : Tab Tryz.prog w) : Calls Tryz.prog 46 #[.agg #[.bool false, .int .i64 333333]] w fun e w' => e = .returned (.string ⟨#[48, 46, 51, 51, 51, 51, 51, 51]⟩) ∧ Below w.heap.size w w' := by
  have h := print_any false 333333 w ⟨by decide, by decide⟩ ht
  rw [ex_cnt _ (by decide), ex_print] at h
  exact h
theorem field_ovf (o : Bool) (n : Int) (w : World) : (Instr.field 27 (.agg #[.bool o, .int .i64 n]) 0).run Tryz.prog w = .ok (.bool o) w := by kernel_rfl
end Go.Proofs.YtkppcgimhnocdabGreatDoor.Fx
/- Sub: for every argument. -/
namespace Go.Proofs.YtkppcgimhnocdabGreatDoor.Fx
open Go.RowKit

theorem V.r64 {r : Option Int} (h : V r) : R64 (nn r) := ⟨by have := h.1; omega, h.2⟩
end Go.Proofs.YtkppcgimhnocdabGreatDoor.Fx
/- The document's own Is, none, Add, Neg: each for every argument. -/
namespace Go.Proofs.YtkppcgimhnocdabGreatDoor.Fx
open Go.RowKit

theorem rIs_eq {o : Bool} {n : Int} (h0 : -9223372036854775808 ≤ n) : fIs o n = if o = true then decide (n = 0) else decide (¬ n = -9223372036854775808) := by
  unfold fIs
  cases o with
  | true => rfl
  | false =>
    show decide (-9223372036854775807 ≤ n) = decide (¬ n = -9223372036854775808)
    by_cases h : n = -9223372036854775808
    · rw [decide_eq_false (by omega), decide_eq_false (by omega)]
    · rw [decide_eq_true (by omega), decide_eq_true h]

/-- What counts: overflow, or a number. -/
theorem cnt_cases {o : Bool} {n : Int} (h0 : -9223372036854775808 ≤ n) : (o = true ∧ cnt o n = none) ∨ (o = false ∧ fIs o n = false ∧ cnt o n = none) ∨ (o = false ∧ fIs o n = true ∧ cnt o n = some n) := by
  cases o with
  | true => exact Or.inl ⟨rfl, by simp [cnt]⟩
  | false =>
    cases h : fIs false n with
    | false => exact Or.inr (Or.inl ⟨rfl, rfl, isnt_cnt h0 h⟩)
    | true =>
      refine Or.inr (Or.inr ⟨rfl, rfl, ?_⟩)
      have hh : -9223372036854775807 ≤ n := by simpa [fIs] using h
      unfold cnt
      rw [if_neg (by intro e; rcases e with e | e; cases e; omega)]

def nov (x y : Option Int) : Bool := ov x || ov y
end Go.Proofs.YtkppcgimhnocdabGreatDoor.Fx
/- The document's own Add, Sub, Mul, Div, Of: each for every argument. -/
namespace Go.Proofs.YtkppcgimhnocdabGreatDoor.Fx
open Go.RowKit

theorem add_cases {a b N : Int} (ha0 : -9223372036854775807 ≤ a) (ha1 : a ≤ 9223372036854775807) (hb0 : -9223372036854775807 ≤ b) (hb1 : b ≤ 9223372036854775807) (hN : wrap64 (a + b) = N) :
    (a > 0 ∧ b > 0 ∧ N ≤ 0 ∧ norm (a + b) = none) ∨ (a > 0 ∧ b > 0 ∧ ¬ N ≤ 0 ∧ ¬ N = -9223372036854775808 ∧ norm (a + b) = some N) ∨ (a > 0 ∧ ¬ b > 0 ∧ ¬ a < 0 ∧ ¬ N = -9223372036854775808 ∧ norm (a + b) = some N) ∨ (¬ a > 0 ∧ a < 0 ∧ b < 0 ∧ N ≥ 0 ∧ norm (a + b) = none) ∨ (¬ a > 0 ∧ a < 0 ∧ b < 0 ∧ ¬ N ≥ 0 ∧ N = -9223372036854775808 ∧ norm (a + b) = none) ∨ (¬ a > 0 ∧ a < 0 ∧ b < 0 ∧ ¬ N ≥ 0 ∧ ¬ N = -9223372036854775808 ∧ norm (a + b) = some N) ∨ (¬ a > 0 ∧ a < 0 ∧ ¬ b < 0 ∧ ¬ N = -9223372036854775808 ∧ norm (a + b) = some N) ∨ (¬ a > 0 ∧ ¬ a < 0 ∧ ¬ N = -9223372036854775808 ∧ norm (a + b) = some N) := by
  have hw : N = a + b ∨ (N = a + b - 18446744073709551616 ∧ 9223372036854775807 < a + b) ∨ (N = a + b + 18446744073709551616 ∧ a + b < -9223372036854775808) := by
    unfold wrap64 at hN
    omega
  have hr : -9223372036854775808 ≤ N ∧ N ≤ 9223372036854775807 := by unfold wrap64 at hN; omega
  clear hN
  rcases hw with h | ⟨h, h'⟩ | ⟨h, h'⟩
  · by_cases hm : N = -9223372036854775808
    · have e : norm (a + b) = none := by unfold norm; rw [if_neg (by omega)]
      rw [e]
      refine Or.inr (Or.inr (Or.inr (Or.inr (Or.inl ⟨by omega, by omega, by omega, by omega, hm, rfl⟩))))
    · have e : norm (a + b) = some N := by unfold norm; rw [if_pos (by omega), h]
      rw [e]
      by_cases p1 : a > 0
      · by_cases p2 : b > 0
        · exact Or.inr (Or.inl ⟨p1, p2, by omega, hm, rfl⟩)
        · exact Or.inr (Or.inr (Or.inl ⟨p1, p2, by omega, hm, rfl⟩))
      · by_cases p3 : a < 0
        · by_cases p4 : b < 0
          · exact Or.inr (Or.inr (Or.inr (Or.inr (Or.inr (Or.inl ⟨p1, p3, p4, by omega, hm, rfl⟩)))))
          · exact Or.inr (Or.inr (Or.inr (Or.inr (Or.inr (Or.inr (Or.inl ⟨p1, p3, p4, hm, rfl⟩))))))
        · exact Or.inr (Or.inr (Or.inr (Or.inr (Or.inr (Or.inr (Or.inr ⟨p1, p3, hm, rfl⟩))))))
  · have e : norm (a + b) = none := by unfold norm; rw [if_neg (by omega)]
    rw [e]
    exact Or.inl ⟨by omega, by omega, by omega, rfl⟩
  · have e : norm (a + b) = none := by unfold norm; rw [if_neg (by omega)]
    rw [e]
    exact Or.inr (Or.inr (Or.inr (Or.inl ⟨by omega, by omega, by omega, by omega, rfl⟩)))

end Go.Proofs.YtkppcgimhnocdabGreatDoor.Fx
/- The document's own Sub, Mul, Div, Of: each for every argument. -/
namespace Go.Proofs.YtkppcgimhnocdabGreatDoor.Fx
open Go.RowKit

theorem both_nums {o p : Bool} {n m : Int} (hn : -9223372036854775808 ≤ n) (hm : -9223372036854775808 ≤ m) (h : nov (cnt o n) (cnt p m) = false) : cnt o n = some n ∧ cnt p m = some m := by
  rcases cnt_cases (o := o) hn with ⟨_, e1⟩ | ⟨_, _, e1⟩ | ⟨_, _, e1⟩
  · rw [e1] at h; cases h
  · rw [e1] at h; cases h
  · rcases cnt_cases (o := p) hm with ⟨_, e2⟩ | ⟨_, _, e2⟩ | ⟨_, _, e2⟩
    · rw [e1, e2] at h; cases h
    · rw [e1, e2] at h; cases h
    · exact ⟨e1, e2⟩

theorem of_mul (n : Int) (hn : R64 n) : fMul (cnt false n) (some 1000000000000) = fOf n := by
  unfold fOf
  by_cases h : n = -9223372036854775808
  · subst h
    have e : cnt false (-9223372036854775808) = none := by decide +kernel
    rw [e]
    decide +kernel
  · rw [ex_cnt _ (by have := hn.1; omega)]
    show norm _ = norm _
    have : n * 1000000000000 = (n * 1000000) * 1000000 := by omega
    rw [this, Int.mul_tdiv_cancel _ (by decide)]
end Go.Proofs.YtkppcgimhnocdabGreatDoor.Fx
/- The document's own Digits and Print: each for every argument. -/
namespace Go.Proofs.YtkppcgimhnocdabGreatDoor.Fx
open Go.RowKit

theorem conv_one (W : World) (R : Nat) (h : R < 10) : (convert 44 9 (.slice (some ⟨W.heap.size, 0, none⟩) 1 1)).run Tryz.prog (W.alloc (.cells #[.int .u8 (48 + (R : Int))] 5)) = .ok (.string ⟨#[UInt8.ofNat (48 + R)]⟩) (W.alloc (.cells #[.int .u8 (48 + (R : Int))] 5)) := by
  refine run_convert_bytes_back (P := Tryz.prog) (W.alloc (.cells #[.int .u8 (48 + (R : Int))] 5)) 44 9 5 ⟨W.heap.size, 0, none⟩ 1 [UInt8.ofNat (48 + R)] Tryz.underlying44 Tryz.underlying5 Tryz.underlying9 (fun j hj => ?_)
  obtain rfl : j = 0 := by simpa using hj
  rw [Lib.add_plain, World.cell?_alloc_new]
  have : (UInt8.ofNat (48 + R)).toNat = 48 + R := by
    rw [UInt8.toNat_ofNat']
    omega
  show some (Value.int .u8 (48 + (R : Int))) = some (.int .u8 ((UInt8.ofNat (48 + R)).toNat : Int))
  rw [this]
  congr 2
set_option maxRecDepth 20000 in
set_option maxHeartbeats 1000000 in
theorem rdigits_any (u : Nat) (w : World) (hu : u < 18446744073709551616) : Calls Tryz.prog 8 #[.int .u64 u] w fun e w' => e = .returned (.string ⟨(Lib.decDigits u).toArray⟩) ∧ Below w.heap.size w w' := by
  have hap := ba_append
  have hlen := dec_short hu
  go_enter Tryz.func8, Tryz.ntmps8
  go_wp2_with fail
  go_loopw [0, 3] (fun a b wr => ∃ (v : Nat) (t : List UInt8), a = .int .u64 v ∧ b = .string ⟨t.toArray⟩ ∧ Hid (Lib.decDigits v ++ t = Lib.decDigits u) ∧ v ≤ u ∧ Below w.heap.size w wr) (fun a _ _ => (intOf a).toNat + 1)
  case atStart => exact ⟨u, [], rfl, rfl, by show _ = _; simp, Nat.le_refl _, Below.refl _ _⟩
  case round =>
    obtain ⟨v, t, rfl, rfl, hd, hv, hbw⟩ := hrel
    have hl : (Lib.decDigits v).length + t.length ≤ 20 := by rw [← List.length_append, hd.out]; exact hlen
    obtain ⟨R, hR⟩ : ∃ R, v % 10 = R := ⟨_, rfl⟩
    obtain ⟨Q, hQ⟩ : ∃ Q, v / 10 = Q := ⟨_, rfl⟩
    have e1 : (v : Int) % 10 = (R : Int) := by omega
    have e2 : (v : Int) / 10 = (Q : Int) := by omega
    have hR10 : R < 10 := by omega
    have hcv := conv_one wr R hR10
    have hQm : Q < 1844674407370955162 := by omega
    obtain ⟨c, hc⟩ : ∃ c, UInt8.ofNat (48 + R) = c := ⟨_, rfl⟩
    rw [hc] at hcv
    have hlt : t.length ≤ 20 := by omega
    by_cases hq : Q = 0
    · have HD : Hid (Lib.decDigits u = c :: t) := by
        show _ = _
        rw [← hd.out, Lib.decDigits_one (by omega)]
        have : v = R := by omega
        rw [this, hc]
        rfl
      have hq' : (Q : Int) = 0 := by omega
      clear hR hQ hv hl hc
      go_wp2_with fail
      go_ret
      exact ⟨by rw [HD.out]; rfl, bal hbw _⟩
    · have hv10 : Lib.decDigits v = Lib.decDigits Q ++ [c] := by rw [Lib.decDigits, dif_neg (by omega), hQ, hR, hc]
      have HD : Hid (Lib.decDigits Q ++ (c :: t) = Lib.decDigits u) := by
        show _ = _
        rw [← hd.out, hv10]
        simp
      have hq' : ¬ (Q : Int) = 0 := by omega
      have hQu : Q ≤ u ∧ Q < v := by omega
      have HQ : Hid _ := hQu
      clear hR hQ hv hl hQu hv10 hc
      go_wp2_with fail
      go_roundw
      case rel => exact ⟨Q, c :: t, rfl, rfl, HD, HQ.out.1, bal hbw _⟩
      case measure => have := HQ.out.2; simp [intOf]; omega

theorem ba_lastget {t : List UInt8} (h : t.length - 1 < (⟨t.toArray⟩ : ByteArray).size) : t.getLast? = some ((⟨t.toArray⟩ : ByteArray)[t.length - 1]'h) := by
  have hl : t.length - 1 < t.length := by rw [ba_size] at h; exact h
  rw [List.getLast?_eq_getElem?, List.getElem?_eq_getElem hl]
  rfl
theorem snoc_of_last {t : List UInt8} (h : t.getLast? = some 48) : t = t.take (t.length - 1) ++ [48] := by
  obtain ⟨ys, rfl⟩ := List.getLast?_eq_some_iff.1 h
  simp

end Go.Proofs.YtkppcgimhnocdabGreatDoor.Fx
/- The document's own digits and Parse: for every text of at most a thousand bytes. -/
namespace Go.Proofs.YtkppcgimhnocdabGreatDoor.Fx
open Go.RowKit

theorem dgs_at {t : List UInt8} {k a : Nat} (hk : k ≤ t.length) (hd : dgs (t.take k) = true) (h : a < k) : 48 ≤ (((⟨t.toArray⟩ : ByteArray)[a]'(ba_lt (by omega))).toNat : Int) ∧ (((⟨t.toArray⟩ : ByteArray)[a]'(ba_lt (by omega))).toNat : Int) ≤ 57 := by
  have hl : a < (t.take k).length := by rw [List.length_take]; omega
  have := dgs_get hd a hl
  rw [List.getElem_take] at this
  exact this
theorem rd_bound {t : List UInt8} {k a : Nat} (hk : k ≤ t.length) (hd : dgs (t.take k) = true) (h : a ≤ k) : rd (t.take a) < 10 ^ a := by
  have hl : a ≤ (t.take k).length := by rw [List.length_take]; omega
  have := rd_lt a (t.take k) hd hl
  rw [List.take_take, Nat.min_eq_left h] at this
  exact this
theorem rd_next {t : List UInt8} {a : Nat} (h : a < t.length) : rd (t.take (a + 1)) = rd (t.take a) * 10 + (((⟨t.toArray⟩ : ByteArray)[a]'(ba_lt h)).toNat - 48) := by
  rw [take_snocB t a h, rd_snoc]
  rfl
theorem ten13 {a : Nat} (h : a ≤ 13) : 10 ^ a ≤ 10000000000000 := by
  have : 10 ^ a ≤ 10 ^ 13 := Nat.pow_le_pow_right (by omega) h
  exact this

theorem digits_six {r : List UInt8} (hd : dgs r = true) (h1 : 1 ≤ r.length) (h6 : r.length ≤ 6) : fDigits r 6 = true := by
  unfold fDigits
  rw [decide_eq_true h1, decide_eq_true h6, hd]
  rfl
def fr (r : List UInt8) (b : Nat) : Nat := rd (r.take b) * 10 ^ (b - r.length)
theorem fr_zero (r : List UInt8) : fr r 0 = 0 := by
  unfold fr
  rw [List.take_zero, Nat.zero_sub]
  rfl
theorem ten6 {a : Nat} (h : a ≤ 6) : 10 ^ a ≤ 1000000 := by
  have : 10 ^ a ≤ 10 ^ 6 := Nat.pow_le_pow_right (by omega) h
  exact this
theorem fr_lt {r : List UInt8} (hd : dgs r = true) (b : Nat) : fr r b < 10 ^ b := by
  unfold fr
  by_cases h : b ≤ r.length
  · have := rd_lt b r hd h
    rw [show b - r.length = 0 by omega, Nat.pow_zero, Nat.mul_one]
    exact this
  · have h1 := rd_lt r.length r hd (Nat.le_refl _)
    have e : r.take b = r := List.take_of_length_le (by omega)
    rw [List.take_of_length_le (Nat.le_refl _)] at h1
    rw [e]
    have h2 : rd r * 10 ^ (b - r.length) < 10 ^ r.length * 10 ^ (b - r.length) := (Nat.mul_lt_mul_right (Nat.pos_of_ne_zero (by simp))).2 h1
    rw [← Nat.pow_add, show r.length + (b - r.length) = b by omega] at h2
    exact h2
theorem fr_in {t : List UInt8} {a b : Nat} (h : b < (t.drop a).length) (h' : a + b < t.length) : fr (t.drop a) (b + 1) = fr (t.drop a) b * 10 + (((⟨t.toArray⟩ : ByteArray)[a + b]'(ba_lt h')).toNat - 48) := by
  unfold fr
  rw [take_snocB _ b h, rd_snoc, show b + 1 - (t.drop a).length = 0 by omega, show b - (t.drop a).length = 0 by omega, Nat.pow_zero, Nat.mul_one, Nat.mul_one, List.getElem_drop]
  rfl
theorem fr_out {r : List UInt8} {b : Nat} (h : r.length ≤ b) : fr r (b + 1) = fr r b * 10 := by
  unfold fr
  rw [List.take_of_length_le (show r.length ≤ b + 1 by omega), List.take_of_length_le h, show b + 1 - r.length = b - r.length + 1 by omega, Nat.pow_succ, Nat.mul_assoc]
theorem fr_six {r : List UInt8} (h : r.length ≤ 6) : fr r 6 = rd r * 10 ^ (6 - r.length) := by
  unfold fr
  rw [List.take_of_length_le h]
theorem dgs_off {t : List UInt8} {a b : Nat} (hd : dgs (t.drop a) = true) (h : b < (t.drop a).length) (h' : a + b < t.length) : 48 ≤ (((⟨t.toArray⟩ : ByteArray)[a + b]'(ba_lt h')).toNat : Int) ∧ (((⟨t.toArray⟩ : ByteArray)[a + b]'(ba_lt h')).toNat : Int) ≤ 57 := by
  have := dgs_get hd b h
  rw [List.getElem_drop] at this
  exact this
theorem no_digits {r : List UInt8} {j : Nat} (he : j = r.length ∨ ∃ h : j < r.length, isDg r[j] = false) (h : ¬ (1 ≤ j ∧ j ≤ 6 ∧ j = r.length)) : fDigits r 6 = false := by
  rcases he with e | ⟨h1, h2⟩
  · have : ¬ (1 ≤ r.length ∧ r.length ≤ 6) := by omega
    unfold fDigits
    by_cases h1 : 1 ≤ r.length
    · rw [decide_eq_false (show ¬ r.length ≤ 6 by omega)]
      simp
    · rw [decide_eq_false h1]
      rfl
  · have : dgs r = false := by
      unfold dgs
      exact List.all_eq_false.2 ⟨r[j], List.getElem_mem h1, by simp [h2]⟩
    unfold fDigits
    rw [this]
    simp
theorem head_is {t : List UInt8} (h : 0 < t.length) (h3 : (((⟨t.toArray⟩ : ByteArray)[0]'(ba_lt h)).toNat : Int) = 48) : t.head? = some 48 := by
  cases t with
  | nil => cases h
  | cons c r =>
    have h4 : (c.toNat : Int) = 48 := h3
    have h5 : c = 48 := UInt8.toNat_inj.1 (by show c.toNat = 48; omega)
    rw [h5]
    rfl
theorem head_isnt {t : List UInt8} (h : 0 < t.length) (h3 : ¬ (((⟨t.toArray⟩ : ByteArray)[0]'(ba_lt h)).toNat : Int) = 48) : t.head? ≠ some 48 := by
  intro e
  cases t with
  | nil => cases h
  | cons c r =>
    cases e
    exact h3 rfl

def pk (r : Option (Option Int)) : Bool := r.isSome

end Go.Proofs.YtkppcgimhnocdabGreatDoor.Fx
/- The document's own Is: for every argument. -/
namespace Go.Proofs.YtkppcgimhnocdabGreatDoor.Fx
open Go.RowKit

theorem rIs_eqs {o : Bool} {n : Int} (h0 : -9223372036854775808 ≤ n) : fIs o n = if o = true then decide (n = 0) else decide (¬ n = -9223372036854775808) := by
  unfold fIs
  cases o with
  | true => rfl
  | false =>
    show decide (-9223372036854775807 ≤ n) = decide (¬ n = -9223372036854775808)
    by_cases h : n = -9223372036854775808
    · rw [decide_eq_false (by omega), decide_eq_false (by omega)]
    · rw [decide_eq_true (by omega), decide_eq_true h]

/-- What counts: overflow, or a number. -/
theorem cnt_ways {o : Bool} {n : Int} (h0 : -9223372036854775808 ≤ n) : (o = true ∧ cnt o n = none) ∨ (o = false ∧ fIs o n = false ∧ cnt o n = none) ∨ (o = false ∧ fIs o n = true ∧ cnt o n = some n) := by
  cases o with
  | true => exact Or.inl ⟨rfl, by simp [cnt]⟩
  | false =>
    cases h : fIs false n with
    | false => exact Or.inr (Or.inl ⟨rfl, rfl, isnt_cnt h0 h⟩)
    | true =>
      refine Or.inr (Or.inr ⟨rfl, rfl, ?_⟩)
      have hh : -9223372036854775807 ≤ n := by simpa [fIs] using h
      unfold cnt
      rw [if_neg (by intro e; rcases e with e | e; cases e; omega)]

end Go.Proofs.YtkppcgimhnocdabGreatDoor.Fx
/- So many matchers, names, one more not; a name twice neither. -/
namespace Go.Proofs.YtkppcgimhnocdabGreatDoor
open Go.RowKit

theorem dec12 : ∀ u, u < 12 → Lib.decDigits u = cD u
  | 0, _ => by simp [Lib.decDigits, cD]
  | 1, _ => by simp [Lib.decDigits, cD]
  | 2, _ => by simp [Lib.decDigits, cD]
  | 3, _ => by simp [Lib.decDigits, cD]
  | 4, _ => by simp [Lib.decDigits, cD]
  | 5, _ => by simp [Lib.decDigits, cD]
  | 6, _ => by simp [Lib.decDigits, cD]
  | 7, _ => by simp [Lib.decDigits, cD]
  | 8, _ => by simp [Lib.decDigits, cD]
  | 9, _ => by simp [Lib.decDigits, cD]
  | 10, _ => by simp [Lib.decDigits, cD]
  | 11, _ => by simp [Lib.decDigits, cD]
  | u + 12, h => by omega
theorem digs_any (u : Nat) (hu : u < 12) (w : World) : Calls Tryz.prog 8 #[.int .u64 u] w fun e w' => e = .returned (tx (cD u)) ∧ Below w.heap.size w w' := by
  have := Fx.rdigits_any u w (by omega)
  rw [dec12 u hu] at this
  exact this
theorem ixs0 (A B C : Str) (W : World) : (Instr.index 25 (.agg #[tx A, tx B, tx C]) (.int .u8 0)).run Tryz.prog W = .ok (tx A) W := by kernel_rfl
theorem ixs1 (A B C : Str) (W : World) : (Instr.index 25 (.agg #[tx A, tx B, tx C]) (.int .u8 1)).run Tryz.prog W = .ok (tx B) W := by kernel_rfl
theorem ixs2 (A B C : Str) (W : World) : (Instr.index 25 (.agg #[tx A, tx B, tx C]) (.int .u8 2)).run Tryz.prog W = .ok (tx C) W := by kernel_rfl
theorem at_str (T : Str) (p : Int) (h0 : 0 ≤ p) (h : p < T.length) (W : World) : (Instr.index 9 (tx T) (.int .i64 p)).run Tryz.prog W = .ok (.int .u8 (T.getD p.toNat 0).toNat) W := by
  obtain ⟨n, rfl⟩ : ∃ n : Nat, p = n := ⟨p.toNat, by omega⟩
  have hn : n < T.length := by omega
  have hs : n < (⟨T.toArray⟩ : ByteArray).size := by show n < T.toArray.size; simpa using hn
  rw [run_index_string _ _ _ _ _ Tryz.underlying9, dif_pos ⟨h0, by show ((n : Nat) : Int) < ((⟨T.toArray⟩ : ByteArray).size : Nat); omega⟩]
  have e : (⟨T.toArray⟩ : ByteArray)[((n : Nat) : Int).toNat]'(by simpa using hs) = T.getD ((n : Nat) : Int).toNat 0 := by
    show T.toArray[((n : Nat) : Int).toNat]'(by simpa using hn) = _
    simp [List.getD, List.getElem?_eq_getElem hn]
  rw [e]
theorem cap_of {h : Nat} {tw : Bool} {k : Nat} (hh : h ≤ 2) (hk : 1 ≤ k) (hk2 : k ≤ 12) : (cGood h tw k = true → psE (cX h tw k) = 0) ∧ (cGood h tw k = false → psE (cX h tw k) = 32 ∧ 0 ≤ psA (cX h tw k) ∧ psA (cX h tw k) < (cX h tw k).length ∧ ((cX h tw k).getD (psA (cX h tw k)).toNat 0 = 41 ∨ (cX h tw k).getD (psA (cX h tw k)).toNat 0 = 125)) := by
  have := caps_all h tw k hh hk hk2
  unfold cOK at this
  refine ⟨fun hg => ?_, fun hg => ?_⟩
  · rw [hg, if_pos rfl, beq_iff_eq] at this
    exact this
  · rw [hg, if_neg (by decide), Bool.and_eq_true, Bool.and_eq_true, Bool.and_eq_true, Bool.or_eq_true, beq_iff_eq, beq_iff_eq, beq_iff_eq, decide_eq_true_eq, decide_eq_true_eq] at this
    exact ⟨this.1.1.1, this.1.1.2, this.1.2, this.2⟩
end Go.Proofs.YtkppcgimhnocdabGreatDoor
/- So many matchers, names, one more not. -/
namespace Go.Proofs.YtkppcgimhnocdabGreatDoor
open Go.RowKit

set_option maxHeartbeats 16000000 in
set_option maxRecDepth 20000 in
theorem capsL0 (n c k1 : Nat) (tw : Bool) (w : World) (hk1 : k1 ≤ 11) (hm : (n : Int) % 12 = (k1 : Int)) (hh : (c : Int) % 3 = (0 : Int)) (he : Ev w) : Calls Tryz.prog 3 #[.int .u8 n, .int .u8 c, .bool tw] w fun e w' => e = .returned (.bool true) ∧ Below w.heap.size w w' := by
  have hkn := known_any w he
  have hdg := fun j (hj : j < 12) W => digs_any j hj W
  have HDG : Hid _ := hdg
  clear hdg
  have hix := ixs0
  have HCap : Hid _ := cap_of (h := 0) (tw := tw) (k := k1 + 1) (by omega) (by omega) (by omega)
  obtain ⟨K, HK⟩ : ∃ K : Int, Hid (K = (k1 : Int) + 1) := ⟨(k1 : Int) + 1, rfl⟩
  have hKe : (k1 : Int) + 1 = K := HK.out.symm
  go_enter Tryz.func3, Tryz.ntmps3
  go_wp2_with fail
  refine hkn.mono ?_
  rintro e w1 ⟨rfl, b1⟩
  go_wp2_with fail
  clear hKe hm
  have hK0 : 1 ≤ K := by rw [HK.out]; omega
  have hK1 : K ≤ 12 := by rw [HK.out]; omega
  go_loopw [8, 9] (fun t i wr => ∃ j : Nat, j ≤ k1 + 1 ∧ t = tx (cS 0 tw (k1 + 1) j) ∧ i = .int .i64 j ∧ Below w.heap.size w wr) (fun _ i _ => k1 + 1 - (intOf i).toNat)
  case atStart => exact ⟨0, by omega, rfl, rfl, b1⟩
  case round =>
    clear b1 hkn
    obtain ⟨j, hj, rfl, rfl, B⟩ := hrel
    have hL := cS_len 0 tw (k1 + 1) j
    obtain ⟨R, HR⟩ : ∃ R : Str, Hid (cS 0 tw (k1 + 1) j = R) := ⟨_, rfl⟩
    rw [HR.out] at hL ⊢
    by_cases hlt : j < k1 + 1
    · have hlt' : (j : Int) < K := by rw [HK.out]; omega
      have hd := HDG.out j (by omega)
      have hc2 := cD_len j
      obtain ⟨D, HD⟩ : ∃ D : Str, Hid (cD j = D) := ⟨_, rfl⟩
      rw [HD.out] at hd hc2
      have HN : Hid (cS 0 tw (k1 + 1) (j + 1) = R ++ (if 0 < j then [44] else []) ++ cI 0 (if tw = true ∧ j + 1 = k1 + 1 then [48] else D)) := by show _ = _; rw [cS, HR.out, HD.out]
      by_cases hp : 0 < j
      · have hp' : (0 : Int) < j := by omega
        cases tw with
        | false =>
          have hq : ¬ (false = true ∧ j + 1 = k1 + 1) := by simp
          have HX : Hid (cS 0 false (k1 + 1) (j + 1) = R ++ [44] ++ [120] ++ D ++ [61, 34, 34]) := by show _ = _; rw [HN.out, if_pos hp, if_neg hq]; simp [cI]
          clear HN hq
          go_wp2_with (refine wp_add rfl 9 9 _ _ rfl _ _ rfl rfl (by simp <;> omega) ?_)
          refine (hd _).mono ?_
          rintro e w2 ⟨rfl, b2⟩
          have B2 := B.trans (b2.mono B.size)
          go_wp2_with (refine wp_add rfl 9 9 _ _ rfl _ _ rfl rfl (by simp <;> omega) ?_)
          go_roundw
          case rel => exact ⟨j + 1, by omega, by rw [HX.out]; simp, by go_num, B2⟩
          case measure => simp [intOf]; omega
        | true =>
          by_cases hjk : j = k1
          · have hq : true = true ∧ j + 1 = k1 + 1 := ⟨rfl, by omega⟩
            have hjk1 : ((j : Int) == K - 1) = true := by rw [beq_iff_eq, HK.out]; omega
            have HX : Hid (cS 0 true (k1 + 1) (j + 1) = R ++ [44] ++ [120] ++ [48] ++ [61, 34, 34]) := by show _ = _; rw [HN.out, if_pos hp, if_pos hq]; simp [cI]
            clear HN hq hjk
            go_wp2_with (refine wp_add rfl 9 9 _ _ rfl _ _ rfl rfl (by simp <;> omega) ?_)
            refine (hd _).mono ?_
            rintro e w2 ⟨rfl, b2⟩
            have B2 := B.trans (b2.mono B.size)
            go_wp2_with (refine wp_add rfl 9 9 _ _ rfl _ _ rfl rfl (by simp <;> omega) ?_)
            go_roundw
            case rel => exact ⟨j + 1, by omega, by rw [HX.out]; simp, by go_num, B2⟩
            case measure => simp [intOf]; omega
          · have hq : ¬ (true = true ∧ j + 1 = k1 + 1) := by omega
            have hjk1 : ((j : Int) == K - 1) = false := by rw [beq_eq_false_iff_ne, HK.out]; omega
            have HX : Hid (cS 0 true (k1 + 1) (j + 1) = R ++ [44] ++ [120] ++ D ++ [61, 34, 34]) := by show _ = _; rw [HN.out, if_pos hp, if_neg hq]; simp [cI]
            clear HN hq hjk
            go_wp2_with (refine wp_add rfl 9 9 _ _ rfl _ _ rfl rfl (by simp <;> omega) ?_)
            refine (hd _).mono ?_
            rintro e w2 ⟨rfl, b2⟩
            have B2 := B.trans (b2.mono B.size)
            go_wp2_with (refine wp_add rfl 9 9 _ _ rfl _ _ rfl rfl (by simp <;> omega) ?_)
            go_roundw
            case rel => exact ⟨j + 1, by omega, by rw [HX.out]; simp, by go_num, B2⟩
            case measure => simp [intOf]; omega
      · have hp' : ¬ (0 : Int) < j := by omega
        cases tw with
        | false =>
          have hq : ¬ (false = true ∧ j + 1 = k1 + 1) := by simp
          have HX : Hid (cS 0 false (k1 + 1) (j + 1) = R ++ [120] ++ D ++ [61, 34, 34]) := by show _ = _; rw [HN.out, if_neg hp, if_neg hq]; simp [cI]
          clear HN hq
          go_wp2_with fail
          refine (hd _).mono ?_
          rintro e w2 ⟨rfl, b2⟩
          have B2 := B.trans (b2.mono B.size)
          go_wp2_with (refine wp_add rfl 9 9 _ _ rfl _ _ rfl rfl (by simp <;> omega) ?_)
          go_roundw
          case rel => exact ⟨j + 1, by omega, by rw [HX.out]; simp, by go_num, B2⟩
          case measure => simp [intOf]; omega
        | true =>
          by_cases hjk : j = k1
          · have hq : true = true ∧ j + 1 = k1 + 1 := ⟨rfl, by omega⟩
            have hjk1 : ((j : Int) == K - 1) = true := by rw [beq_iff_eq, HK.out]; omega
            have HX : Hid (cS 0 true (k1 + 1) (j + 1) = R ++ [120] ++ [48] ++ [61, 34, 34]) := by show _ = _; rw [HN.out, if_neg hp, if_pos hq]; simp [cI]
            clear HN hq hjk
            go_wp2_with fail
            refine (hd _).mono ?_
            rintro e w2 ⟨rfl, b2⟩
            have B2 := B.trans (b2.mono B.size)
            go_wp2_with (refine wp_add rfl 9 9 _ _ rfl _ _ rfl rfl (by simp <;> omega) ?_)
            go_roundw
            case rel => exact ⟨j + 1, by omega, by rw [HX.out]; simp, by go_num, B2⟩
            case measure => simp [intOf]; omega
          · have hq : ¬ (true = true ∧ j + 1 = k1 + 1) := by omega
            have hjk1 : ((j : Int) == K - 1) = false := by rw [beq_eq_false_iff_ne, HK.out]; omega
            have HX : Hid (cS 0 true (k1 + 1) (j + 1) = R ++ [120] ++ D ++ [61, 34, 34]) := by show _ = _; rw [HN.out, if_neg hp, if_neg hq]; simp [cI]
            clear HN hq hjk
            go_wp2_with fail
            refine (hd _).mono ?_
            rintro e w2 ⟨rfl, b2⟩
            have B2 := B.trans (b2.mono B.size)
            go_wp2_with (refine wp_add rfl 9 9 _ _ rfl _ _ rfl rfl (by simp <;> omega) ?_)
            go_roundw
            case rel => exact ⟨j + 1, by omega, by rw [HX.out]; simp, by go_num, B2⟩
            case measure => simp [intOf]; omega
    · have hlt' : ¬ (j : Int) < K := by rw [HK.out]; omega
      obtain rfl : j = k1 + 1 := by omega
      obtain ⟨U1, HU1⟩ : ∃ X : Str, Hid ([123] ++ R = X) := ⟨[123] ++ R, rfl⟩
      obtain ⟨U, HU⟩ : ∃ X : Str, Hid (U1 ++ [125] = X) := ⟨U1 ++ [125], rfl⟩
      have lU1 : U1.length ≤ 500 := by rw [← HU1.out]; simp; omega
      have lU : U.length ≤ 600 := by rw [← HU.out]; simp; omega
      obtain ⟨V1, HV1⟩ : ∃ X : Str, Hid ([115, 117, 109, 32, 98, 121, 32, 40] ++ R = X) := ⟨[115, 117, 109, 32, 98, 121, 32, 40] ++ R, rfl⟩
      obtain ⟨V, HV⟩ : ∃ X : Str, Hid (V1 ++ [41, 32, 40, 97, 41] = X) := ⟨V1 ++ [41, 32, 40, 97, 41], rfl⟩
      have lV1 : V1.length ≤ 500 := by rw [← HV1.out]; simp; omega
      have lV : V.length ≤ 600 := by rw [← HV.out]; simp; omega
      obtain ⟨Z1, HZ1⟩ : ∃ X : Str, Hid ([97, 32, 43, 32, 111, 110, 32, 40] ++ R = X) := ⟨[97, 32, 43, 32, 111, 110, 32, 40] ++ R, rfl⟩
      obtain ⟨Z, HZ⟩ : ∃ X : Str, Hid (Z1 ++ [41, 32, 98] = X) := ⟨Z1 ++ [41, 32, 98], rfl⟩
      have lZ1 : Z1.length ≤ 500 := by rw [← HZ1.out]; simp; omega
      have lZ : Z.length ≤ 600 := by rw [← HZ.out]; simp; omega
      have HCX : Hid (cX 0 tw (k1 + 1) = U) := by
        show _ = _
        unfold cX cT
        rw [HR.out, ← HU.out, ← HU1.out]
        rfl
      have HC2 := HCap
      rw [HCX.out] at HC2
      have hps := parse_any U wr (by omega) (he.later B)
      have hRl : R.length ≤ 84 := by omega
      clear HCX HDG HCap HR hL hj
      go_upto_region 17 with (refine wp_add rfl 9 9 _ _ rfl _ _ rfl rfl (by simp <;> omega) ?_; first | rw [HU1.out] | rw [HU.out] | rw [HV1.out] | rw [HV.out] | rw [HZ1.out] | rw [HZ.out])
      clear HU1 HU HV1 HV HZ1 HZ hix
      by_cases h8 : k1 ≤ 7
      · have e1 := HC2.out.1 (by simp [cGood]; omega)
        rw [e1] at hps
        clear HC2 e1
        have hK8 : K ≤ 8 := by rw [HK.out]; omega
        generalize psX U = X at *
        generalize psA U = pa at *
        go_wp2_with fail
        refine hps.mono ?_
        rintro e w5 ⟨cs, rfl, t5, b5⟩
        have row := t5.row
        have q5 := heap_new w5 (.cells zE 32)
        have B5 := B.trans (b5.mono B.size)
        have zB := B5.size
        have Ba := bal B5 (.cells zE 32)
        clear hps
        go_upto_region 18 with (refine wp_put rfl 32 _ _ rfl w5.heap.size cs rfl rfl _ 32 q5 13 inf29 rfl row ?_; intro w6 q6 o6 z6; clear z6)
        go_wp2_with fail
        go_ret
        exact ⟨by simp, ((Off.of Ba []).trans o6 (by simp <;> omega)).below (by simp)⟩
      · obtain ⟨e1, e2, e3, e4⟩ := HC2.out.2 (by simp [cGood]; omega)
        rw [e1] at hps
        have hidx := at_str U (psA U) e2 e3
        clear HC2 e1
        have hK8 : ¬ K ≤ 8 := by rw [HK.out]; omega
        generalize psX U = X at *
        generalize psA U = pa at *
        generalize hv : U.getD pa.toNat 0 = v at *
        clear hv
        rcases e4 with rfl | rfl
        · go_wp2_with fail
          refine hps.mono ?_
          rintro e w5 ⟨cs, rfl, t5, b5⟩
          have row := t5.row
          have q5 := heap_new w5 (.cells zE 32)
          have B5 := B.trans (b5.mono B.size)
          have zB := B5.size
          have Ba := bal B5 (.cells zE 32)
          clear hps
          go_upto_region 18 with (refine wp_put rfl 32 _ _ rfl w5.heap.size cs rfl rfl _ 32 q5 13 inf29 rfl row ?_; intro w6 q6 o6 z6; clear z6)
          go_wp2_with fail
          go_ret
          exact ⟨by simp, ((Off.of Ba []).trans o6 (by simp <;> omega)).below (by simp)⟩
        · go_wp2_with fail
          refine hps.mono ?_
          rintro e w5 ⟨cs, rfl, t5, b5⟩
          have row := t5.row
          have q5 := heap_new w5 (.cells zE 32)
          have B5 := B.trans (b5.mono B.size)
          have zB := B5.size
          have Ba := bal B5 (.cells zE 32)
          clear hps
          go_upto_region 18 with (refine wp_put rfl 32 _ _ rfl w5.heap.size cs rfl rfl _ 32 q5 13 inf29 rfl row ?_; intro w6 q6 o6 z6; clear z6)
          go_wp2_with fail
          go_ret
          exact ⟨by simp, ((Off.of Ba []).trans o6 (by simp <;> omega)).below (by simp)⟩
end Go.Proofs.YtkppcgimhnocdabGreatDoor
/- So many matchers, names, one more not. -/
namespace Go.Proofs.YtkppcgimhnocdabGreatDoor
open Go.RowKit

set_option maxHeartbeats 16000000 in
set_option maxRecDepth 20000 in
theorem capsL1 (n c k1 : Nat) (tw : Bool) (w : World) (hk1 : k1 ≤ 11) (hm : (n : Int) % 12 = (k1 : Int)) (hh : (c : Int) % 3 = (1 : Int)) (he : Ev w) : Calls Tryz.prog 3 #[.int .u8 n, .int .u8 c, .bool tw] w fun e w' => e = .returned (.bool true) ∧ Below w.heap.size w w' := by
  have hkn := known_any w he
  have hdg := fun j (hj : j < 12) W => digs_any j hj W
  have HDG : Hid _ := hdg
  clear hdg
  have hix := ixs1
  have HCap : Hid _ := cap_of (h := 1) (tw := tw) (k := k1 + 1) (by omega) (by omega) (by omega)
  obtain ⟨K, HK⟩ : ∃ K : Int, Hid (K = (k1 : Int) + 1) := ⟨(k1 : Int) + 1, rfl⟩
  have hKe : (k1 : Int) + 1 = K := HK.out.symm
  go_enter Tryz.func3, Tryz.ntmps3
  go_wp2_with fail
  refine hkn.mono ?_
  rintro e w1 ⟨rfl, b1⟩
  go_wp2_with fail
  clear hKe hm
  have hK0 : 1 ≤ K := by rw [HK.out]; omega
  have hK1 : K ≤ 12 := by rw [HK.out]; omega
  go_loopw [8, 9] (fun t i wr => ∃ j : Nat, j ≤ k1 + 1 ∧ t = tx (cS 1 tw (k1 + 1) j) ∧ i = .int .i64 j ∧ Below w.heap.size w wr) (fun _ i _ => k1 + 1 - (intOf i).toNat)
  case atStart => exact ⟨0, by omega, rfl, rfl, b1⟩
  case round =>
    clear b1 hkn
    obtain ⟨j, hj, rfl, rfl, B⟩ := hrel
    have hL := cS_len 1 tw (k1 + 1) j
    obtain ⟨R, HR⟩ : ∃ R : Str, Hid (cS 1 tw (k1 + 1) j = R) := ⟨_, rfl⟩
    rw [HR.out] at hL ⊢
    by_cases hlt : j < k1 + 1
    · have hlt' : (j : Int) < K := by rw [HK.out]; omega
      have hd := HDG.out j (by omega)
      have hc2 := cD_len j
      obtain ⟨D, HD⟩ : ∃ D : Str, Hid (cD j = D) := ⟨_, rfl⟩
      rw [HD.out] at hd hc2
      have HN : Hid (cS 1 tw (k1 + 1) (j + 1) = R ++ (if 0 < j then [44] else []) ++ cI 1 (if tw = true ∧ j + 1 = k1 + 1 then [48] else D)) := by show _ = _; rw [cS, HR.out, HD.out]
      by_cases hp : 0 < j
      · have hp' : (0 : Int) < j := by omega
        cases tw with
        | false =>
          have hq : ¬ (false = true ∧ j + 1 = k1 + 1) := by simp
          have HX : Hid (cS 1 false (k1 + 1) (j + 1) = R ++ [44] ++ [120] ++ D) := by show _ = _; rw [HN.out, if_pos hp, if_neg hq]; simp [cI]
          clear HN hq
          go_wp2_with (refine wp_add rfl 9 9 _ _ rfl _ _ rfl rfl (by simp <;> omega) ?_)
          refine (hd _).mono ?_
          rintro e w2 ⟨rfl, b2⟩
          have B2 := B.trans (b2.mono B.size)
          go_wp2_with (refine wp_add rfl 9 9 _ _ rfl _ _ rfl rfl (by simp <;> omega) ?_)
          go_roundw
          case rel => exact ⟨j + 1, by omega, by rw [HX.out]; simp, by go_num, B2⟩
          case measure => simp [intOf]; omega
        | true =>
          by_cases hjk : j = k1
          · have hq : true = true ∧ j + 1 = k1 + 1 := ⟨rfl, by omega⟩
            have hjk1 : ((j : Int) == K - 1) = true := by rw [beq_iff_eq, HK.out]; omega
            have HX : Hid (cS 1 true (k1 + 1) (j + 1) = R ++ [44] ++ [120] ++ [48]) := by show _ = _; rw [HN.out, if_pos hp, if_pos hq]; simp [cI]
            clear HN hq hjk
            go_wp2_with (refine wp_add rfl 9 9 _ _ rfl _ _ rfl rfl (by simp <;> omega) ?_)
            refine (hd _).mono ?_
            rintro e w2 ⟨rfl, b2⟩
            have B2 := B.trans (b2.mono B.size)
            go_wp2_with (refine wp_add rfl 9 9 _ _ rfl _ _ rfl rfl (by simp <;> omega) ?_)
            go_roundw
            case rel => exact ⟨j + 1, by omega, by rw [HX.out]; simp, by go_num, B2⟩
            case measure => simp [intOf]; omega
          · have hq : ¬ (true = true ∧ j + 1 = k1 + 1) := by omega
            have hjk1 : ((j : Int) == K - 1) = false := by rw [beq_eq_false_iff_ne, HK.out]; omega
            have HX : Hid (cS 1 true (k1 + 1) (j + 1) = R ++ [44] ++ [120] ++ D) := by show _ = _; rw [HN.out, if_pos hp, if_neg hq]; simp [cI]
            clear HN hq hjk
            go_wp2_with (refine wp_add rfl 9 9 _ _ rfl _ _ rfl rfl (by simp <;> omega) ?_)
            refine (hd _).mono ?_
            rintro e w2 ⟨rfl, b2⟩
            have B2 := B.trans (b2.mono B.size)
            go_wp2_with (refine wp_add rfl 9 9 _ _ rfl _ _ rfl rfl (by simp <;> omega) ?_)
            go_roundw
            case rel => exact ⟨j + 1, by omega, by rw [HX.out]; simp, by go_num, B2⟩
            case measure => simp [intOf]; omega
      · have hp' : ¬ (0 : Int) < j := by omega
        cases tw with
        | false =>
          have hq : ¬ (false = true ∧ j + 1 = k1 + 1) := by simp
          have HX : Hid (cS 1 false (k1 + 1) (j + 1) = R ++ [120] ++ D) := by show _ = _; rw [HN.out, if_neg hp, if_neg hq]; simp [cI]
          clear HN hq
          go_wp2_with fail
          refine (hd _).mono ?_
          rintro e w2 ⟨rfl, b2⟩
          have B2 := B.trans (b2.mono B.size)
          go_wp2_with (refine wp_add rfl 9 9 _ _ rfl _ _ rfl rfl (by simp <;> omega) ?_)
          go_roundw
          case rel => exact ⟨j + 1, by omega, by rw [HX.out]; simp, by go_num, B2⟩
          case measure => simp [intOf]; omega
        | true =>
          by_cases hjk : j = k1
          · have hq : true = true ∧ j + 1 = k1 + 1 := ⟨rfl, by omega⟩
            have hjk1 : ((j : Int) == K - 1) = true := by rw [beq_iff_eq, HK.out]; omega
            have HX : Hid (cS 1 true (k1 + 1) (j + 1) = R ++ [120] ++ [48]) := by show _ = _; rw [HN.out, if_neg hp, if_pos hq]; simp [cI]
            clear HN hq hjk
            go_wp2_with fail
            refine (hd _).mono ?_
            rintro e w2 ⟨rfl, b2⟩
            have B2 := B.trans (b2.mono B.size)
            go_wp2_with (refine wp_add rfl 9 9 _ _ rfl _ _ rfl rfl (by simp <;> omega) ?_)
            go_roundw
            case rel => exact ⟨j + 1, by omega, by rw [HX.out]; simp, by go_num, B2⟩
            case measure => simp [intOf]; omega
          · have hq : ¬ (true = true ∧ j + 1 = k1 + 1) := by omega
            have hjk1 : ((j : Int) == K - 1) = false := by rw [beq_eq_false_iff_ne, HK.out]; omega
            have HX : Hid (cS 1 true (k1 + 1) (j + 1) = R ++ [120] ++ D) := by show _ = _; rw [HN.out, if_neg hp, if_neg hq]; simp [cI]
            clear HN hq hjk
            go_wp2_with fail
            refine (hd _).mono ?_
            rintro e w2 ⟨rfl, b2⟩
            have B2 := B.trans (b2.mono B.size)
            go_wp2_with (refine wp_add rfl 9 9 _ _ rfl _ _ rfl rfl (by simp <;> omega) ?_)
            go_roundw
            case rel => exact ⟨j + 1, by omega, by rw [HX.out]; simp, by go_num, B2⟩
            case measure => simp [intOf]; omega
    · have hlt' : ¬ (j : Int) < K := by rw [HK.out]; omega
      obtain rfl : j = k1 + 1 := by omega
      obtain ⟨U1, HU1⟩ : ∃ X : Str, Hid ([123] ++ R = X) := ⟨[123] ++ R, rfl⟩
      obtain ⟨U, HU⟩ : ∃ X : Str, Hid (U1 ++ [125] = X) := ⟨U1 ++ [125], rfl⟩
      have lU1 : U1.length ≤ 500 := by rw [← HU1.out]; simp; omega
      have lU : U.length ≤ 600 := by rw [← HU.out]; simp; omega
      obtain ⟨V1, HV1⟩ : ∃ X : Str, Hid ([115, 117, 109, 32, 98, 121, 32, 40] ++ R = X) := ⟨[115, 117, 109, 32, 98, 121, 32, 40] ++ R, rfl⟩
      obtain ⟨V, HV⟩ : ∃ X : Str, Hid (V1 ++ [41, 32, 40, 97, 41] = X) := ⟨V1 ++ [41, 32, 40, 97, 41], rfl⟩
      have lV1 : V1.length ≤ 500 := by rw [← HV1.out]; simp; omega
      have lV : V.length ≤ 600 := by rw [← HV.out]; simp; omega
      obtain ⟨Z1, HZ1⟩ : ∃ X : Str, Hid ([97, 32, 43, 32, 111, 110, 32, 40] ++ R = X) := ⟨[97, 32, 43, 32, 111, 110, 32, 40] ++ R, rfl⟩
      obtain ⟨Z, HZ⟩ : ∃ X : Str, Hid (Z1 ++ [41, 32, 98] = X) := ⟨Z1 ++ [41, 32, 98], rfl⟩
      have lZ1 : Z1.length ≤ 500 := by rw [← HZ1.out]; simp; omega
      have lZ : Z.length ≤ 600 := by rw [← HZ.out]; simp; omega
      have HCX : Hid (cX 1 tw (k1 + 1) = V) := by
        show _ = _
        unfold cX cT
        rw [HR.out, ← HV.out, ← HV1.out]
        rfl
      have HC2 := HCap
      rw [HCX.out] at HC2
      have hps := parse_any V wr (by omega) (he.later B)
      have hRl : R.length ≤ 84 := by omega
      clear HCX HDG HCap HR hL hj
      go_upto_region 17 with (refine wp_add rfl 9 9 _ _ rfl _ _ rfl rfl (by simp <;> omega) ?_; first | rw [HU1.out] | rw [HU.out] | rw [HV1.out] | rw [HV.out] | rw [HZ1.out] | rw [HZ.out])
      clear HU1 HU HV1 HV HZ1 HZ hix
      cases tw with
      | false =>
        by_cases h8 : k1 ≤ 7
        · have e1 := HC2.out.1 (by simp [cGood]; omega)
          rw [e1] at hps
          clear HC2 e1
          have hK8 : K ≤ 8 := by rw [HK.out]; omega
          generalize psX V = X at *
          generalize psA V = pa at *
          go_wp2_with fail
          refine hps.mono ?_
          rintro e w5 ⟨cs, rfl, t5, b5⟩
          have row := t5.row
          have q5 := heap_new w5 (.cells zE 32)
          have B5 := B.trans (b5.mono B.size)
          have zB := B5.size
          have Ba := bal B5 (.cells zE 32)
          clear hps
          go_upto_region 18 with (refine wp_put rfl 32 _ _ rfl w5.heap.size cs rfl rfl _ 32 q5 13 inf29 rfl row ?_; intro w6 q6 o6 z6; clear z6)
          go_wp2_with fail
          go_ret
          exact ⟨by simp, ((Off.of Ba []).trans o6 (by simp <;> omega)).below (by simp)⟩
        · obtain ⟨e1, e2, e3, e4⟩ := HC2.out.2 (by simp [cGood]; omega)
          rw [e1] at hps
          have hidx := at_str V (psA V) e2 e3
          clear HC2 e1
          have hK8 : ¬ K ≤ 8 := by rw [HK.out]; omega
          generalize psX V = X at *
          generalize psA V = pa at *
          generalize hv : V.getD pa.toNat 0 = v at *
          clear hv
          rcases e4 with rfl | rfl
          · go_wp2_with fail
            refine hps.mono ?_
            rintro e w5 ⟨cs, rfl, t5, b5⟩
            have row := t5.row
            have q5 := heap_new w5 (.cells zE 32)
            have B5 := B.trans (b5.mono B.size)
            have zB := B5.size
            have Ba := bal B5 (.cells zE 32)
            clear hps
            go_upto_region 18 with (refine wp_put rfl 32 _ _ rfl w5.heap.size cs rfl rfl _ 32 q5 13 inf29 rfl row ?_; intro w6 q6 o6 z6; clear z6)
            go_wp2_with fail
            go_ret
            exact ⟨by simp, ((Off.of Ba []).trans o6 (by simp <;> omega)).below (by simp)⟩
          · go_wp2_with fail
            refine hps.mono ?_
            rintro e w5 ⟨cs, rfl, t5, b5⟩
            have row := t5.row
            have q5 := heap_new w5 (.cells zE 32)
            have B5 := B.trans (b5.mono B.size)
            have zB := B5.size
            have Ba := bal B5 (.cells zE 32)
            clear hps
            go_upto_region 18 with (refine wp_put rfl 32 _ _ rfl w5.heap.size cs rfl rfl _ 32 q5 13 inf29 rfl row ?_; intro w6 q6 o6 z6; clear z6)
            go_wp2_with fail
            go_ret
            exact ⟨by simp, ((Off.of Ba []).trans o6 (by simp <;> omega)).below (by simp)⟩
      | true =>
        by_cases h0 : k1 = 0
        · have e1 := HC2.out.1 (by simp [cGood, h0])
          rw [e1] at hps
          clear HC2 e1
          have hK8 : K ≤ 8 := by rw [HK.out]; omega
          have hKe1 : (K == 1) = true := by rw [beq_iff_eq, HK.out]; omega
          clear h0
          generalize psX V = X at *
          generalize psA V = pa at *
          go_wp2_with fail
          refine hps.mono ?_
          rintro e w5 ⟨cs, rfl, t5, b5⟩
          have row := t5.row
          have q5 := heap_new w5 (.cells zE 32)
          have B5 := B.trans (b5.mono B.size)
          have zB := B5.size
          have Ba := bal B5 (.cells zE 32)
          clear hps
          go_upto_region 18 with (refine wp_put rfl 32 _ _ rfl w5.heap.size cs rfl rfl _ 32 q5 13 inf29 rfl row ?_; intro w6 q6 o6 z6; clear z6)
          go_wp2_with fail
          go_ret
          exact ⟨by simp, ((Off.of Ba []).trans o6 (by simp <;> omega)).below (by simp)⟩
        · by_cases h8 : k1 ≤ 7
          · obtain ⟨e1, e2, e3, e4⟩ := HC2.out.2 (by simp [cGood, h0])
            rw [e1] at hps
            have hidx := at_str V (psA V) e2 e3
            clear HC2 e1
            have hK8 : K ≤ 8 := by rw [HK.out]; omega
            have hKe1 : (K == 1) = false := by rw [beq_eq_false_iff_ne, HK.out]; omega
            clear h0
            generalize psX V = X at *
            generalize psA V = pa at *
            generalize hv : V.getD pa.toNat 0 = v at *
            clear hv
            rcases e4 with rfl | rfl
            · go_wp2_with fail
              refine hps.mono ?_
              rintro e w5 ⟨cs, rfl, t5, b5⟩
              have row := t5.row
              have q5 := heap_new w5 (.cells zE 32)
              have B5 := B.trans (b5.mono B.size)
              have zB := B5.size
              have Ba := bal B5 (.cells zE 32)
              clear hps
              go_upto_region 18 with (refine wp_put rfl 32 _ _ rfl w5.heap.size cs rfl rfl _ 32 q5 13 inf29 rfl row ?_; intro w6 q6 o6 z6; clear z6)
              go_wp2_with fail
              go_ret
              exact ⟨by simp, ((Off.of Ba []).trans o6 (by simp <;> omega)).below (by simp)⟩
            · go_wp2_with fail
              refine hps.mono ?_
              rintro e w5 ⟨cs, rfl, t5, b5⟩
              have row := t5.row
              have q5 := heap_new w5 (.cells zE 32)
              have B5 := B.trans (b5.mono B.size)
              have zB := B5.size
              have Ba := bal B5 (.cells zE 32)
              clear hps
              go_upto_region 18 with (refine wp_put rfl 32 _ _ rfl w5.heap.size cs rfl rfl _ 32 q5 13 inf29 rfl row ?_; intro w6 q6 o6 z6; clear z6)
              go_wp2_with fail
              go_ret
              exact ⟨by simp, ((Off.of Ba []).trans o6 (by simp <;> omega)).below (by simp)⟩
          · obtain ⟨e1, e2, e3, e4⟩ := HC2.out.2 (by simp [cGood]; omega)
            rw [e1] at hps
            have hidx := at_str V (psA V) e2 e3
            clear HC2 e1
            have hK8 : ¬ K ≤ 8 := by rw [HK.out]; omega
            clear h0
            generalize psX V = X at *
            generalize psA V = pa at *
            generalize hv : V.getD pa.toNat 0 = v at *
            clear hv
            rcases e4 with rfl | rfl
            · go_wp2_with fail
              refine hps.mono ?_
              rintro e w5 ⟨cs, rfl, t5, b5⟩
              have row := t5.row
              have q5 := heap_new w5 (.cells zE 32)
              have B5 := B.trans (b5.mono B.size)
              have zB := B5.size
              have Ba := bal B5 (.cells zE 32)
              clear hps
              go_upto_region 18 with (refine wp_put rfl 32 _ _ rfl w5.heap.size cs rfl rfl _ 32 q5 13 inf29 rfl row ?_; intro w6 q6 o6 z6; clear z6)
              go_wp2_with fail
              go_ret
              exact ⟨by simp, ((Off.of Ba []).trans o6 (by simp <;> omega)).below (by simp)⟩
            · go_wp2_with fail
              refine hps.mono ?_
              rintro e w5 ⟨cs, rfl, t5, b5⟩
              have row := t5.row
              have q5 := heap_new w5 (.cells zE 32)
              have B5 := B.trans (b5.mono B.size)
              have zB := B5.size
              have Ba := bal B5 (.cells zE 32)
              clear hps
              go_upto_region 18 with (refine wp_put rfl 32 _ _ rfl w5.heap.size cs rfl rfl _ 32 q5 13 inf29 rfl row ?_; intro w6 q6 o6 z6; clear z6)
              go_wp2_with fail
              go_ret
              exact ⟨by simp, ((Off.of Ba []).trans o6 (by simp <;> omega)).below (by simp)⟩
end Go.Proofs.YtkppcgimhnocdabGreatDoor
/- So many matchers, names, one more not. -/
namespace Go.Proofs.YtkppcgimhnocdabGreatDoor
open Go.RowKit

set_option maxHeartbeats 16000000 in
set_option maxRecDepth 20000 in
theorem capsL2 (n c k1 : Nat) (tw : Bool) (w : World) (hk1 : k1 ≤ 11) (hm : (n : Int) % 12 = (k1 : Int)) (hh : (c : Int) % 3 = (2 : Int)) (he : Ev w) : Calls Tryz.prog 3 #[.int .u8 n, .int .u8 c, .bool tw] w fun e w' => e = .returned (.bool true) ∧ Below w.heap.size w w' := by
  have hkn := known_any w he
  have hdg := fun j (hj : j < 12) W => digs_any j hj W
  have HDG : Hid _ := hdg
  clear hdg
  have hix := ixs2
  have HCap : Hid _ := cap_of (h := 2) (tw := tw) (k := k1 + 1) (by omega) (by omega) (by omega)
  obtain ⟨K, HK⟩ : ∃ K : Int, Hid (K = (k1 : Int) + 1) := ⟨(k1 : Int) + 1, rfl⟩
  have hKe : (k1 : Int) + 1 = K := HK.out.symm
  go_enter Tryz.func3, Tryz.ntmps3
  go_wp2_with fail
  refine hkn.mono ?_
  rintro e w1 ⟨rfl, b1⟩
  go_wp2_with fail
  clear hKe hm
  have hK0 : 1 ≤ K := by rw [HK.out]; omega
  have hK1 : K ≤ 12 := by rw [HK.out]; omega
  go_loopw [8, 9] (fun t i wr => ∃ j : Nat, j ≤ k1 + 1 ∧ t = tx (cS 2 tw (k1 + 1) j) ∧ i = .int .i64 j ∧ Below w.heap.size w wr) (fun _ i _ => k1 + 1 - (intOf i).toNat)
  case atStart => exact ⟨0, by omega, rfl, rfl, b1⟩
  case round =>
    clear b1 hkn
    obtain ⟨j, hj, rfl, rfl, B⟩ := hrel
    have hL := cS_len 2 tw (k1 + 1) j
    obtain ⟨R, HR⟩ : ∃ R : Str, Hid (cS 2 tw (k1 + 1) j = R) := ⟨_, rfl⟩
    rw [HR.out] at hL ⊢
    by_cases hlt : j < k1 + 1
    · have hlt' : (j : Int) < K := by rw [HK.out]; omega
      have hd := HDG.out j (by omega)
      have hc2 := cD_len j
      obtain ⟨D, HD⟩ : ∃ D : Str, Hid (cD j = D) := ⟨_, rfl⟩
      rw [HD.out] at hd hc2
      have HN : Hid (cS 2 tw (k1 + 1) (j + 1) = R ++ (if 0 < j then [44] else []) ++ cI 2 (if tw = true ∧ j + 1 = k1 + 1 then [48] else D)) := by show _ = _; rw [cS, HR.out, HD.out]
      by_cases hp : 0 < j
      · have hp' : (0 : Int) < j := by omega
        cases tw with
        | false =>
          have hq : ¬ (false = true ∧ j + 1 = k1 + 1) := by simp
          have HX : Hid (cS 2 false (k1 + 1) (j + 1) = R ++ [44] ++ [120] ++ D) := by show _ = _; rw [HN.out, if_pos hp, if_neg hq]; simp [cI]
          clear HN hq
          go_wp2_with (refine wp_add rfl 9 9 _ _ rfl _ _ rfl rfl (by simp <;> omega) ?_)
          refine (hd _).mono ?_
          rintro e w2 ⟨rfl, b2⟩
          have B2 := B.trans (b2.mono B.size)
          go_wp2_with (refine wp_add rfl 9 9 _ _ rfl _ _ rfl rfl (by simp <;> omega) ?_)
          go_roundw
          case rel => exact ⟨j + 1, by omega, by rw [HX.out]; simp, by go_num, B2⟩
          case measure => simp [intOf]; omega
        | true =>
          by_cases hjk : j = k1
          · have hq : true = true ∧ j + 1 = k1 + 1 := ⟨rfl, by omega⟩
            have hjk1 : ((j : Int) == K - 1) = true := by rw [beq_iff_eq, HK.out]; omega
            have HX : Hid (cS 2 true (k1 + 1) (j + 1) = R ++ [44] ++ [120] ++ [48]) := by show _ = _; rw [HN.out, if_pos hp, if_pos hq]; simp [cI]
            clear HN hq hjk
            go_wp2_with (refine wp_add rfl 9 9 _ _ rfl _ _ rfl rfl (by simp <;> omega) ?_)
            refine (hd _).mono ?_
            rintro e w2 ⟨rfl, b2⟩
            have B2 := B.trans (b2.mono B.size)
            go_wp2_with (refine wp_add rfl 9 9 _ _ rfl _ _ rfl rfl (by simp <;> omega) ?_)
            go_roundw
            case rel => exact ⟨j + 1, by omega, by rw [HX.out]; simp, by go_num, B2⟩
            case measure => simp [intOf]; omega
          · have hq : ¬ (true = true ∧ j + 1 = k1 + 1) := by omega
            have hjk1 : ((j : Int) == K - 1) = false := by rw [beq_eq_false_iff_ne, HK.out]; omega
            have HX : Hid (cS 2 true (k1 + 1) (j + 1) = R ++ [44] ++ [120] ++ D) := by show _ = _; rw [HN.out, if_pos hp, if_neg hq]; simp [cI]
            clear HN hq hjk
            go_wp2_with (refine wp_add rfl 9 9 _ _ rfl _ _ rfl rfl (by simp <;> omega) ?_)
            refine (hd _).mono ?_
            rintro e w2 ⟨rfl, b2⟩
            have B2 := B.trans (b2.mono B.size)
            go_wp2_with (refine wp_add rfl 9 9 _ _ rfl _ _ rfl rfl (by simp <;> omega) ?_)
            go_roundw
            case rel => exact ⟨j + 1, by omega, by rw [HX.out]; simp, by go_num, B2⟩
            case measure => simp [intOf]; omega
      · have hp' : ¬ (0 : Int) < j := by omega
        cases tw with
        | false =>
          have hq : ¬ (false = true ∧ j + 1 = k1 + 1) := by simp
          have HX : Hid (cS 2 false (k1 + 1) (j + 1) = R ++ [120] ++ D) := by show _ = _; rw [HN.out, if_neg hp, if_neg hq]; simp [cI]
          clear HN hq
          go_wp2_with fail
          refine (hd _).mono ?_
          rintro e w2 ⟨rfl, b2⟩
          have B2 := B.trans (b2.mono B.size)
          go_wp2_with (refine wp_add rfl 9 9 _ _ rfl _ _ rfl rfl (by simp <;> omega) ?_)
          go_roundw
          case rel => exact ⟨j + 1, by omega, by rw [HX.out]; simp, by go_num, B2⟩
          case measure => simp [intOf]; omega
        | true =>
          by_cases hjk : j = k1
          · have hq : true = true ∧ j + 1 = k1 + 1 := ⟨rfl, by omega⟩
            have hjk1 : ((j : Int) == K - 1) = true := by rw [beq_iff_eq, HK.out]; omega
            have HX : Hid (cS 2 true (k1 + 1) (j + 1) = R ++ [120] ++ [48]) := by show _ = _; rw [HN.out, if_neg hp, if_pos hq]; simp [cI]
            clear HN hq hjk
            go_wp2_with fail
            refine (hd _).mono ?_
            rintro e w2 ⟨rfl, b2⟩
            have B2 := B.trans (b2.mono B.size)
            go_wp2_with (refine wp_add rfl 9 9 _ _ rfl _ _ rfl rfl (by simp <;> omega) ?_)
            go_roundw
            case rel => exact ⟨j + 1, by omega, by rw [HX.out]; simp, by go_num, B2⟩
            case measure => simp [intOf]; omega
          · have hq : ¬ (true = true ∧ j + 1 = k1 + 1) := by omega
            have hjk1 : ((j : Int) == K - 1) = false := by rw [beq_eq_false_iff_ne, HK.out]; omega
            have HX : Hid (cS 2 true (k1 + 1) (j + 1) = R ++ [120] ++ D) := by show _ = _; rw [HN.out, if_neg hp, if_neg hq]; simp [cI]
            clear HN hq hjk
            go_wp2_with fail
            refine (hd _).mono ?_
            rintro e w2 ⟨rfl, b2⟩
            have B2 := B.trans (b2.mono B.size)
            go_wp2_with (refine wp_add rfl 9 9 _ _ rfl _ _ rfl rfl (by simp <;> omega) ?_)
            go_roundw
            case rel => exact ⟨j + 1, by omega, by rw [HX.out]; simp, by go_num, B2⟩
            case measure => simp [intOf]; omega
    · have hlt' : ¬ (j : Int) < K := by rw [HK.out]; omega
      obtain rfl : j = k1 + 1 := by omega
      obtain ⟨U1, HU1⟩ : ∃ X : Str, Hid ([123] ++ R = X) := ⟨[123] ++ R, rfl⟩
      obtain ⟨U, HU⟩ : ∃ X : Str, Hid (U1 ++ [125] = X) := ⟨U1 ++ [125], rfl⟩
      have lU1 : U1.length ≤ 500 := by rw [← HU1.out]; simp; omega
      have lU : U.length ≤ 600 := by rw [← HU.out]; simp; omega
      obtain ⟨V1, HV1⟩ : ∃ X : Str, Hid ([115, 117, 109, 32, 98, 121, 32, 40] ++ R = X) := ⟨[115, 117, 109, 32, 98, 121, 32, 40] ++ R, rfl⟩
      obtain ⟨V, HV⟩ : ∃ X : Str, Hid (V1 ++ [41, 32, 40, 97, 41] = X) := ⟨V1 ++ [41, 32, 40, 97, 41], rfl⟩
      have lV1 : V1.length ≤ 500 := by rw [← HV1.out]; simp; omega
      have lV : V.length ≤ 600 := by rw [← HV.out]; simp; omega
      obtain ⟨Z1, HZ1⟩ : ∃ X : Str, Hid ([97, 32, 43, 32, 111, 110, 32, 40] ++ R = X) := ⟨[97, 32, 43, 32, 111, 110, 32, 40] ++ R, rfl⟩
      obtain ⟨Z, HZ⟩ : ∃ X : Str, Hid (Z1 ++ [41, 32, 98] = X) := ⟨Z1 ++ [41, 32, 98], rfl⟩
      have lZ1 : Z1.length ≤ 500 := by rw [← HZ1.out]; simp; omega
      have lZ : Z.length ≤ 600 := by rw [← HZ.out]; simp; omega
      have HCX : Hid (cX 2 tw (k1 + 1) = Z) := by
        show _ = _
        unfold cX cT
        rw [HR.out, ← HZ.out, ← HZ1.out]
        rfl
      have HC2 := HCap
      rw [HCX.out] at HC2
      have hps := parse_any Z wr (by omega) (he.later B)
      have hRl : R.length ≤ 84 := by omega
      clear HCX HDG HCap HR hL hj
      go_upto_region 17 with (refine wp_add rfl 9 9 _ _ rfl _ _ rfl rfl (by simp <;> omega) ?_; first | rw [HU1.out] | rw [HU.out] | rw [HV1.out] | rw [HV.out] | rw [HZ1.out] | rw [HZ.out])
      clear HU1 HU HV1 HV HZ1 HZ hix
      cases tw with
      | false =>
        by_cases h8 : k1 ≤ 7
        · have e1 := HC2.out.1 (by simp [cGood]; omega)
          rw [e1] at hps
          clear HC2 e1
          have hK8 : K ≤ 8 := by rw [HK.out]; omega
          generalize psX Z = X at *
          generalize psA Z = pa at *
          go_wp2_with fail
          refine hps.mono ?_
          rintro e w5 ⟨cs, rfl, t5, b5⟩
          have row := t5.row
          have q5 := heap_new w5 (.cells zE 32)
          have B5 := B.trans (b5.mono B.size)
          have zB := B5.size
          have Ba := bal B5 (.cells zE 32)
          clear hps
          go_upto_region 18 with (refine wp_put rfl 32 _ _ rfl w5.heap.size cs rfl rfl _ 32 q5 13 inf29 rfl row ?_; intro w6 q6 o6 z6; clear z6)
          go_wp2_with fail
          go_ret
          exact ⟨by simp, ((Off.of Ba []).trans o6 (by simp <;> omega)).below (by simp)⟩
        · obtain ⟨e1, e2, e3, e4⟩ := HC2.out.2 (by simp [cGood]; omega)
          rw [e1] at hps
          have hidx := at_str Z (psA Z) e2 e3
          clear HC2 e1
          have hK8 : ¬ K ≤ 8 := by rw [HK.out]; omega
          generalize psX Z = X at *
          generalize psA Z = pa at *
          generalize hv : Z.getD pa.toNat 0 = v at *
          clear hv
          rcases e4 with rfl | rfl
          · go_wp2_with fail
            refine hps.mono ?_
            rintro e w5 ⟨cs, rfl, t5, b5⟩
            have row := t5.row
            have q5 := heap_new w5 (.cells zE 32)
            have B5 := B.trans (b5.mono B.size)
            have zB := B5.size
            have Ba := bal B5 (.cells zE 32)
            clear hps
            go_upto_region 18 with (refine wp_put rfl 32 _ _ rfl w5.heap.size cs rfl rfl _ 32 q5 13 inf29 rfl row ?_; intro w6 q6 o6 z6; clear z6)
            go_wp2_with fail
            go_ret
            exact ⟨by simp, ((Off.of Ba []).trans o6 (by simp <;> omega)).below (by simp)⟩
          · go_wp2_with fail
            refine hps.mono ?_
            rintro e w5 ⟨cs, rfl, t5, b5⟩
            have row := t5.row
            have q5 := heap_new w5 (.cells zE 32)
            have B5 := B.trans (b5.mono B.size)
            have zB := B5.size
            have Ba := bal B5 (.cells zE 32)
            clear hps
            go_upto_region 18 with (refine wp_put rfl 32 _ _ rfl w5.heap.size cs rfl rfl _ 32 q5 13 inf29 rfl row ?_; intro w6 q6 o6 z6; clear z6)
            go_wp2_with fail
            go_ret
            exact ⟨by simp, ((Off.of Ba []).trans o6 (by simp <;> omega)).below (by simp)⟩
      | true =>
        by_cases h0 : k1 = 0
        · have e1 := HC2.out.1 (by simp [cGood, h0])
          rw [e1] at hps
          clear HC2 e1
          have hK8 : K ≤ 8 := by rw [HK.out]; omega
          have hKe1 : (K == 1) = true := by rw [beq_iff_eq, HK.out]; omega
          clear h0
          generalize psX Z = X at *
          generalize psA Z = pa at *
          go_wp2_with fail
          refine hps.mono ?_
          rintro e w5 ⟨cs, rfl, t5, b5⟩
          have row := t5.row
          have q5 := heap_new w5 (.cells zE 32)
          have B5 := B.trans (b5.mono B.size)
          have zB := B5.size
          have Ba := bal B5 (.cells zE 32)
          clear hps
          go_upto_region 18 with (refine wp_put rfl 32 _ _ rfl w5.heap.size cs rfl rfl _ 32 q5 13 inf29 rfl row ?_; intro w6 q6 o6 z6; clear z6)
          go_wp2_with fail
          go_ret
          exact ⟨by simp, ((Off.of Ba []).trans o6 (by simp <;> omega)).below (by simp)⟩
        · by_cases h8 : k1 ≤ 7
          · obtain ⟨e1, e2, e3, e4⟩ := HC2.out.2 (by simp [cGood, h0])
            rw [e1] at hps
            have hidx := at_str Z (psA Z) e2 e3
            clear HC2 e1
            have hK8 : K ≤ 8 := by rw [HK.out]; omega
            have hKe1 : (K == 1) = false := by rw [beq_eq_false_iff_ne, HK.out]; omega
            clear h0
            generalize psX Z = X at *
            generalize psA Z = pa at *
            generalize hv : Z.getD pa.toNat 0 = v at *
            clear hv
            rcases e4 with rfl | rfl
            · go_wp2_with fail
              refine hps.mono ?_
              rintro e w5 ⟨cs, rfl, t5, b5⟩
              have row := t5.row
              have q5 := heap_new w5 (.cells zE 32)
              have B5 := B.trans (b5.mono B.size)
              have zB := B5.size
              have Ba := bal B5 (.cells zE 32)
              clear hps
              go_upto_region 18 with (refine wp_put rfl 32 _ _ rfl w5.heap.size cs rfl rfl _ 32 q5 13 inf29 rfl row ?_; intro w6 q6 o6 z6; clear z6)
              go_wp2_with fail
              go_ret
              exact ⟨by simp, ((Off.of Ba []).trans o6 (by simp <;> omega)).below (by simp)⟩
            · go_wp2_with fail
              refine hps.mono ?_
              rintro e w5 ⟨cs, rfl, t5, b5⟩
              have row := t5.row
              have q5 := heap_new w5 (.cells zE 32)
              have B5 := B.trans (b5.mono B.size)
              have zB := B5.size
              have Ba := bal B5 (.cells zE 32)
              clear hps
              go_upto_region 18 with (refine wp_put rfl 32 _ _ rfl w5.heap.size cs rfl rfl _ 32 q5 13 inf29 rfl row ?_; intro w6 q6 o6 z6; clear z6)
              go_wp2_with fail
              go_ret
              exact ⟨by simp, ((Off.of Ba []).trans o6 (by simp <;> omega)).below (by simp)⟩
          · obtain ⟨e1, e2, e3, e4⟩ := HC2.out.2 (by simp [cGood]; omega)
            rw [e1] at hps
            have hidx := at_str Z (psA Z) e2 e3
            clear HC2 e1
            have hK8 : ¬ K ≤ 8 := by rw [HK.out]; omega
            clear h0
            generalize psX Z = X at *
            generalize psA Z = pa at *
            generalize hv : Z.getD pa.toNat 0 = v at *
            clear hv
            rcases e4 with rfl | rfl
            · go_wp2_with fail
              refine hps.mono ?_
              rintro e w5 ⟨cs, rfl, t5, b5⟩
              have row := t5.row
              have q5 := heap_new w5 (.cells zE 32)
              have B5 := B.trans (b5.mono B.size)
              have zB := B5.size
              have Ba := bal B5 (.cells zE 32)
              clear hps
              go_upto_region 18 with (refine wp_put rfl 32 _ _ rfl w5.heap.size cs rfl rfl _ 32 q5 13 inf29 rfl row ?_; intro w6 q6 o6 z6; clear z6)
              go_wp2_with fail
              go_ret
              exact ⟨by simp, ((Off.of Ba []).trans o6 (by simp <;> omega)).below (by simp)⟩
            · go_wp2_with fail
              refine hps.mono ?_
              rintro e w5 ⟨cs, rfl, t5, b5⟩
              have row := t5.row
              have q5 := heap_new w5 (.cells zE 32)
              have B5 := B.trans (b5.mono B.size)
              have zB := B5.size
              have Ba := bal B5 (.cells zE 32)
              clear hps
              go_upto_region 18 with (refine wp_put rfl 32 _ _ rfl w5.heap.size cs rfl rfl _ 32 q5 13 inf29 rfl row ?_; intro w6 q6 o6 z6; clear z6)
              go_wp2_with fail
              go_ret
              exact ⟨by simp, ((Off.of Ba []).trans o6 (by simp <;> omega)).below (by simp)⟩
end Go.Proofs.YtkppcgimhnocdabGreatDoor
/- So many matchers, names, one more not. -/
namespace Go.Proofs.YtkppcgimhnocdabGreatDoor
open Go.RowKit

theorem caps_any (n c : Nat) (tw : Bool) (w : World) (_hn : n ≤ 255) (_hc : c ≤ 255) (he : Ev w) : Calls Tryz.prog 3 #[.int .u8 n, .int .u8 c, .bool tw] w fun e w' => e = .returned (.bool true) ∧ Below w.heap.size w w' := by
  have hm : (n : Int) % 12 = ((n % 12 : Nat) : Int) := by omega
  rcases (by omega : c % 3 = 0 ∨ c % 3 = 1 ∨ c % 3 = 2) with e | e | e
  · exact capsL0 n c (n % 12) tw w (by omega) hm (by omega) he
  · exact capsL1 n c (n % 12) tw w (by omega) hm (by omega) he
  · exact capsL2 n c (n % 12) tw w (by omega) hm (by omega) he
end Go.Proofs.YtkppcgimhnocdabGreatDoor
/- ExprCaps: for every input the law returns true, and its arguments read as they did: the row, and its card, tied to the program's text. Conditions: none beyond the card's own. -/
namespace Go.Proofs.YtkppcgimhnocdabGreatDoor.exprCapsRow
open Go.ChangeShapes Go.WideShapes Go.ChangeAt Go.RowKit Go.Joins Go.ChangeMaps

theorem own : ownKnob Tryz.prog.godebug = none := by kernel_rfl
set_option maxRecDepth 100000 in
theorem lifted (os : Os) (started : os.Started) (H : Type) (enc : TypeId × Value → H) :
    ReturnsInHanded {} Tryz.checked os 3 .any (fun w args => (Rows.exprCapsSpec.pre enc Tryz.prog Tryz.f3 Rows.exprCapsRow.domain false w args ∧ laidMetH Tryz.prog Rows.exprCapsRow.laid w) ∧ sizedMet enc Tryz.prog Tryz.f3 (OpenSpec.ofChange Rows.exprCapsSpec) false w args)
      (Rows.exprCapsSpec.post enc Tryz.prog Tryz.f3 false true false false) := by
  refine lift_env (fun _ _ _ hh h => h.of_heap hh) (C := Tryz.checked) (X := fun w _ => laidMetH Tryz.prog Rows.exprCapsRow.laid w) own started (by kernel_rfl) Tryz.func3
    (ChangeSpec.witness_shaped (enc := enc) (C := Tryz.checked) (os := os) (X := fun w _ => laidMetH Tryz.prog Rows.exprCapsRow.laid w) false (World.laidAll Tryz.prog os Rows.exprCapsRow.laid) #[.int .u8 0, .int .u8 0, .bool false] 8 (World.laidAll_os _ _ _)
      (World.shaped_of_ZipB (by kernel_rfl) (by kernel_rfl)) (by kernel_rfl) (by kernel_rfl) (by kernel_rfl)
      (by rw [MakeChecks.laidMetH_plain _ _ _ (by kernel_rfl)]; exact laidMet_laidAll _ (by kernel_rfl) (by kernel_rfl))) ?_
  intro W base args ds gs before hval0 hW hsh hL
  have hval : ∀ (j : Nat) t v, Tryz.f3.params[j]? = some t → args[j]? = some v → Value.okWide Tryz.prog W .any base t v := hval0
  have hW' := hW
  obtain ⟨p, q, hA0, hV, rfl, hfz, hnd⟩ := hW
  have hA : DataW.TrodAll enc Tryz.prog W 0 (fun _ => true) true Tryz.f3.params.toList args.toList ds p := hA0
  rw [Tryz.params3] at hA hval
  obtain ⟨v0, vs0, d0, ds0, p0, q0, hargs, rfl, rfl, h0, r0⟩ := trodAll_cons hA
  obtain ⟨v1, vs1, d1, ds1, p1, q1, rfl, rfl, rfl, h1, r1⟩ := trodAll_cons r0
  obtain ⟨v2, vs2, d2, ds2, p2, q2, rfl, rfl, rfl, h2, r2⟩ := trodAll_cons r1
  obtain ⟨rfl, rfl, rfl⟩ := trodAll_nil r2
  obtain rfl : args = #[v0, v1, v2] := by cases args; simp_all
  obtain ⟨rfl, rfl⟩ := trodVars_none hV
  obtain ⟨n0, rfl, rfl, rfl, w0⟩ := open_int Tryz.underlying5 (hval 0 5 v0 rfl rfl) h0
  have b0 : 0 ≤ n0 ∧ n0 ≤ 255 := by simpa [Lit.wf, IntKind.min, IntKind.max, IntKind.signed, IntKind.bits] using w0
  obtain ⟨N0, rfl⟩ : ∃ N : Nat, n0 = N := ⟨n0.toNat, by omega⟩
  obtain ⟨n1, rfl, rfl, rfl, w1⟩ := open_int Tryz.underlying5 (hval 1 5 v1 rfl rfl) h1
  have b1 : 0 ≤ n1 ∧ n1 ≤ 255 := by simpa [Lit.wf, IntKind.min, IntKind.max, IntKind.signed, IntKind.bits] using w1
  obtain ⟨N1, rfl⟩ : ∃ N : Nat, n1 = N := ⟨n1.toNat, by omega⟩
  obtain ⟨x2, rfl, rfl, rfl⟩ := open_bool Tryz.underlying4 (hval 2 4 v2 rfl rfl) h2
  clear hA0 hval0
  simp only [List.append_nil] at hW'
  refine (caps_any N0 N1 x2 W (by omega) (by omega)   (env_of hsh hL)).mono fun e W' ⟨he, hg⟩ => ?_
  subst he
  exact ⟨_, rfl, _, _, _, [], [], [], hW', trodAll_mk1 (shut_bool Tryz.underlying4 _), (trodAll_cons_mk (shut_int Tryz.underlying5 w0) (trodAll_cons_mk (shut_int Tryz.underlying5 w1) (trodAll_cons_mk (shut_bool Tryz.underlying4 _) trodAll_mk0))), rfl, hg.frame _, fun h => by cases h⟩

theorem holds : Rows.ExprCapsSaid :=
  OpenClaim.holds_of_wide 3 Tryz.f3 rfl rfl rfl rfl rfl rfl rfl ⟨rfl, rfl, rfl, rfl, rfl⟩ rfl rfl rfl rfl rfl (by kernel_rfl) Tryz.func3 (by kernel_rfl)
    (of_decide_eq_true (by kernel_rfl)) (by unfold Func.isWrapper; first | (rw [if_pos (by decide +kernel)]; kernel_rfl) | (rw [if_neg (by decide +kernel)]; exact ⟨rfl, rfl⟩))
    (fun os started H enc _ => lifted os started H enc)
end Go.Proofs.YtkppcgimhnocdabGreatDoor.exprCapsRow
namespace Go.Proofs.YtkppcgimhnocdabGreatDoor
open Go
theorem exprCaps_card : Rows.ExprCapsCardSaid :=
  Claim7.holds_tied_plain_at .later [] [.data, .data, .data, .data, .sentinel, .sentinel, .pinned] true (true, "de27a6e6fe403ccb34f493b4989840ed7712091a63239ac79da314bb4edb8d8c") true exprCapsRow.holds (fun _ h => by cases h) (by kernel_rfl) (fun _ h => by cases h) exprCaps_row_tie rfl ⟨rfl, rfl⟩ (by kernel_rfl) rfl
    (fun f fn hf hfn => by
      obtain rfl : f = 3 := Option.some.inj ((show Tryz.prog.funcNamed "spillway/spillwaylaw8.ExprCaps" = some 3 by kernel_rfl).symm.trans hf) |>.symm
      obtain rfl : fn = Tryz.f3 := (Option.some.inj (Tryz.func3.symm.trans hfn)).symm
      exact ⟨by kernel_rfl, fun j t ht => by
        rw [Tryz.params3] at ht
        have hm : t ∈ [5, 5, 4] := by simpa using Array.mem_of_getElem? ht
        have hall : ([5, 5, 4].all fun u => !Tryz.prog.wantsStandIn u) = true := by kernel_rfl
        exact (show Tryz.prog.wantsStandIn t = false by simpa using List.all_eq_true.1 hall t hm)⟩)
    (by kernel_rfl)
end Go.Proofs.YtkppcgimhnocdabGreatDoor
