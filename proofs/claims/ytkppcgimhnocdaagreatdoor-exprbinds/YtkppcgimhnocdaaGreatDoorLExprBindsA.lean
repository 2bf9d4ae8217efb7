/- ExprBinds: for every input the law returns true, and its arguments read as they did: the row, and its card, tied to the program's text. Conditions: none beyond the card's own. -/
import Derived.Test.YtkppcgimhnocdaaGreatDoorMB
import Derived.Test.YtkppcgimhnocdaaGreatDoorRows
import Derived.ProofKit
import Derived.OpenShut
import Derived.LaidMore
import Derived.Lay
import Derived.SevenTiedAt
import Derived.Stop.Joined
import Derived.Lib.SmallJoins
import Derived.Lib.LaidTab
import Derived.Stop.LaidErr
import Derived.ChangeMaps5
import Derived.Deep.SlicePairs
import Derived.SliceStrings
import Derived.HandedShaped
import Derived.Shelf.Vars
import Derived.Test.YtkppcgimhnocdaaGreatDoorMO
import Derived.Test.YtkppcgimhnocdaaGreatDoorMX
import Derived.Test.YtkppcgimhnocdaaGreatDoorMD
import Derived.Test.YtkppcgimhnocdaaGreatDoorMS
import Derived.Test.YtkppcgimhnocdaaGreatDoorTie
import Derived.Test.YtkppcgimhnocdaaGreatDoorCards
/- What is handed in: slices of texts, of bytes out of their readings; what the library's variables hold when a call begins. -/
namespace Go.Proofs.YtkppcgimhnocdaaGreatDoor
open Go.ChangeShapes Go.WideShapes Go.ChangeAt Go.RowKit Go.Deep

theorem laidOut : laidOutB Tryz.prog = true := by kernel_rfl
theorem mx_of {W : World} (h : W.ShapedOpen Tryz.prog) : Mx W :=
  cell_of_shapedOpen_int (g := 3) (t := 3) (zero := #[.int .i64 0]) (k := .i64) h (of_decide_eq_true (by kernel_rfl)) (by kernel_rfl) rfl (by kernel_rfl) (by kernel_rfl) Tryz.underlying3
theorem tx_of (s : ByteArray) : ∃ l : Str, (⟨l.toArray⟩ : ByteArray) = s ∧ l.length = s.size := ⟨s.data.toList, Lib.mk_data s, by rw [Array.length_toList]; rfl⟩
def Ns (w : World) (ao : Option Addr) (n : Nat) (l : List UInt8) : Prop :=
  l.length = n ∧ (0 < n → ∃ b off, ao = some ⟨b, off, none⟩ ∧ ∀ j, j < n → w.cell? ⟨b, off + j, none⟩ = some (.int .u8 (l.getD j 0).toNat))
theorem bytes_of {H : Type} {enc : TypeId × Value → H} {W : World} {xa : Option Addr} {len cap : Nat} {x : DataW H × List MemPlace}
    (h : ∃ fuel, DataW.trod enc Tryz.prog W 0 (fun _ => true) true fuel 50 (Value.slice xa len cap).cells.toList = some x) :
    ∃ l, Ns W xa len l ∧ len ≤ 9223372036854775807 := by
  obtain ⟨fuel, hf⟩ := h
  rcases open_ints Tryz.underlying50 Tryz.underlying5 (by kernel_rfl) hf with ⟨hcs, hx⟩ | ⟨a, len', cap', zs, hcs, _, hl, hm, hlen, hx, hel, hw⟩
  · simp [Value.cells] at hcs
    obtain ⟨rfl, rfl, rfl⟩ := hcs
    exact ⟨[], ⟨rfl, fun h => by omega⟩, by omega⟩
  · simp [Value.cells] at hcs
    obtain ⟨rfl, rfl, rfl⟩ := hcs
    have hss : len ≤ zs.length := by rw [hlen]; split <;> omega
    refine ⟨(List.range len).map (fun i => UInt8.ofNat (zs.getD i 0).toNat), ⟨by simp, fun hp => ?_⟩, by unfold maxLen at hm; omega⟩
    obtain ⟨b, off, spot⟩ := a
    have hc := hel 0 (by omega)
    have hspot : spot = none := by simpa [Addr.add] using World.cell?_spot hc
    subst hspot
    refine ⟨b, off, rfl, fun j hj => ?_⟩
    have q0 := hel j (by omega)
    rw [Addr.add_lit] at q0
    rw [q0]
    have hm2 : zs.getD j 0 ∈ zs := by
      have hj2 : j < zs.length := by omega
      simp [List.getD, List.getElem?_eq_getElem hj2]
    have hwf := hw _ hm2
    have hb : 0 ≤ zs.getD j 0 ∧ zs.getD j 0 ≤ 255 := by simpa [Lit.wf, IntKind.min, IntKind.max, IntKind.signed, IntKind.bits] using hwf
    have e : ((List.range len).map (fun i => UInt8.ofNat (zs.getD i 0).toNat)).getD j 0 = UInt8.ofNat (zs.getD j 0).toNat := by simp [List.getD, hj]
    rw [e, UInt8.toNat_ofNat']
    congr 2
    omega
theorem lift_env {H : Type} {enc : TypeId × Value → H} {a : Assume} {C : Checked} {os : Os} {f : FuncId} {fn : Func} {s : ChangeSpec} {conds : List PathCond} {apart fresh handsOn again : Bool} {X : World → Array Value → Prop} (hX : ∀ w w' args, w.heap = w'.heap → X w args → X w' args)
    (own : ownKnob C.prog.godebug = none) (started : os.Started) (noInit : C.prog.inits.idxOf? f = none) (hfn : C.prog.funcs[f]? = some fn)
    (witness : ∃ (w : World) (tape : Tape) (i : Input), w.os = os ∧ (w.forCall tape i).Shaped C.prog ∧ i.vars = [] ∧ Input.okWide C.prog (w.forCall tape i) .any w.heap.size f i ∧
      ((s.pre enc C.prog fn conds apart (w.forCall tape i).memory i.args ∧ X (w.forCall tape i).memory i.args) ∧ sizedMet enc C.prog fn (OpenSpec.ofChange s) apart (w.forCall tape i).memory i.args) ∧ a.holds C.prog (lone (Frame.enter C.prog f i.args .normal) [] (w.forCall tape i)))
    (contract : ∀ (W : World) (base : Nat) (args : Array Value) (ds gs : List (DataW H)) (before : List MemPlace),
      (∀ (j : Nat) t v, fn.params[j]? = some t → args[j]? = some v → Value.okWide C.prog W .any base t v) →
      DataW.Whole enc C.prog fn.params.toList s.vars apart W args.toList ds gs before → W.ShapedOpen C.prog → X W args →
      Calls C.prog f args W fun e W' => ∃ v, e = .returned v ∧ s.post enc C.prog fn apart fresh handsOn again W args v W') :
    ReturnsInHanded a C os f .any (fun w args => (s.pre enc C.prog fn conds apart w args ∧ X w args) ∧ sizedMet enc C.prog fn (OpenSpec.ofChange s) apart w args) (s.post enc C.prog fn apart fresh handsOn again) := by
  refine returnsInHanded_of_calls own started noInit witness ?_
  intro w tape i _ hsh _ hok hpre _
  obtain ⟨_, _, _, fn', hfn', _, _, _, _, hval⟩ := hok
  have e : fn' = fn := Option.some.inj (hfn'.symm.trans hfn)
  subst e
  obtain ⟨⟨⟨ds, gs, before, hw, hc⟩, hx⟩, hz⟩ := hpre
  have hw' := DataW.Whole.of_heap (w' := w.forCall tape i) (by rfl) hw
  refine (contract (w.forCall tape i) w.heap.size i.args ds gs before hval hw' hsh (hX _ _ _ (by rfl) hx)).mono fun e W' ⟨v, he, hp⟩ => ?_
  subst he
  exact ChangeSpec.post_blind hp

/-! ### What the library's variables hold when a call begins -/
theorem gES : Tryz.prog.globalNamed "strconv.ErrSyntax" = some 4 := by kernel_rfl
theorem gER : Tryz.prog.globalNamed "strconv.ErrRange" = some 5 := by kernel_rfl
theorem tES : (Tryz.prog.globals[4]?).map (·.type) = some 156 := by kernel_rfl
theorem tER : (Tryz.prog.globals[5]?).map (·.type) = some 156 := by kernel_rfl
theorem c141 : Tryz.prog.cellsOf 243 = 1 := by kernel_rfl
theorem c9 : Tryz.prog.cellsOf 9 = 1 := by kernel_rfl
theorem starE : "*" ++ "errors.errorString" = "*errors.errorString" := by decide
theorem rowES (u : TypeId) (h : Tryz.prog.typeName? 3 u = some "*errors.errorString") : u = 241 :=
  typeName_ptr_named (nm := "errors.errorString") (by rw [starE]; kernel_rfl) (by kernel_rfl) (by decide) u (by rw [starE]; exact h)
theorem env_of {W : World} (hsh : W.ShapedOpen Tryz.prog) (h : laidMetH Tryz.prog Rows.exprTellsRow.laid W) : Ev W := by
  rw [MakeChecks.laidMetH_plain _ _ _ (by kernel_rfl)] at h
  have h2 := laidMet.tail (laidMet.tail h)
  have h4 := laidMet.tail (laidMet.tail h2)
  have h5 := laidMet.tail h4
  refine ⟨mx_of hsh, ?_, ?_, ?_⟩
  · obtain ⟨a0, s0, hv0, -, -, -⟩ := laid_sentinel h5 gES tES Tryz.underlying156 rowES Tryz.underlying241 Tryz.underlying243 rfl rfl Tryz.underlying9 c141 c9
    have h0 := World.var?_cell gES hv0 0
    exact ⟨_, by simpa using h0, Or.inr ⟨_, _, rfl⟩⟩
  · obtain ⟨a0, s0, hv0, -, -, -⟩ := laid_sentinel h4 gER tER Tryz.underlying156 rowES Tryz.underlying241 Tryz.underlying243 rfl rfl Tryz.underlying9 c141 c9
    have h0 := World.var?_cell gER hv0 0
    exact ⟨_, by simpa using h0, Or.inr ⟨_, _, rfl⟩⟩
  · exact Lib.tabIs_of_head (g := 0) (t := 205) (e := 117) (n := 20) (by kernel_rfl) (by kernel_rfl) Tryz.underlying205 Tryz.underlying117 (by kernel_rfl) (by kernel_rfl) h2
end Go.Proofs.YtkppcgimhnocdaaGreatDoor
/- Whether a text is among six; how close an operator binds, in the document's words; names that are words. -/
namespace Go.Proofs.YtkppcgimhnocdaaGreatDoor
open Go.RowKit

theorem map_tx_at (l : List Str) {j : Nat} (h : j < l.length) : (l.map tx).toArray[j]? = some (tx (l.getD j [])) := by
  simp [List.getD, List.getElem?_eq_getElem h]
set_option maxHeartbeats 4000000 in
theorem among_row (s : Str) (l : List Str) (hl : l.length = 6) (A : Array Value) (hA : Hid (A = (l.map tx).toArray)) (r : Bool) (hr : Hid (r = (s != [] && l.contains s))) (w : World) : Calls Tryz.prog 72 #[tx s, .agg A] w fun e w' => e = .returned (.bool r) ∧ Below w.heap.size w w' := by
  have q0 := heap_new w (.cells A 51)
  have hc : Hid (∀ j, j < 6 → (w.alloc (.cells A 51)).cell? ⟨w.heap.size, j, none⟩ = some (tx (l.getD j []))) := fun j hj => by rw [cell_at q0, hA.out, map_tx_at l (by omega)]
  have B := bal (Below.refl w.heap.size w) (.cells A 51)
  have HL : Hid (l.length = 6) := hl
  clear hl q0
  go_enter Tryz.func72, Tryz.ntmps72
  go_upto_region 2 with fail
  generalize w.alloc (.cells A 51) = w1 at *
  go_loopw [5] (fun i wr => ∃ j : Nat, j ≤ 6 ∧ i = .int .i64 j ∧ w1 = wr ∧ Hid (s ≠ [] → ∀ k, k < j → l.getD k [] ≠ s)) (fun i _ => 6 - (intOf i).toNat)
  case atStart => exact ⟨0, by omega, rfl, rfl, fun _ k hk => by omega⟩
  case round =>
    obtain ⟨j, hj, rfl, rfl, HQ⟩ := hrel
    by_cases hlt : j < 6
    · have hlt' : (j : Int) < 6 := by omega
      have c := hc.out j hlt
      by_cases hs : s = []
      · have hs1 : List.isEmpty s = true := by rw [hs]; rfl
        have HS : Hid (s = []) := hs
        clear hs HQ
        obtain ⟨x, hx⟩ : ∃ x, Hid (l.getD j [] = x) := ⟨_, rfl⟩
        rw [hx.out] at c
        go_wp2_with fail
        go_roundw
        case rel => exact ⟨j + 1, by omega, by go_num, trivial, fun h => absurd HS.out h⟩
        case measure => simp [intOf]; omega
      · have hs0 : Hid ((s != []) = true) := by show _ = _; rw [bne_iff_ne]; exact hs
        have hs1 : List.isEmpty s = false := by cases s with
          | nil => exact absurd rfl hs
          | cons a b => rfl
        clear hs
        by_cases he : l.getD j [] = s
        · have he1 : (l.getD j [] == s) = true := by rw [beq_iff_eq]; exact he
          have HA : Hid (r = true) := by
            show _ = _
            rw [hr.out, hs0.out, Bool.true_and, List.contains_iff_mem, ← he, List.getD, List.getElem?_eq_getElem (by rw [HL.out]; omega)]
            exact List.getElem_mem _
          clear he
          obtain ⟨x, hx⟩ : ∃ x, Hid (l.getD j [] = x) := ⟨_, rfl⟩
          rw [hx.out] at c he1
          go_wp2_with fail
          go_ret
          exact ⟨by rw [HA.out]; rfl, B⟩
        · have he1 : (l.getD j [] == s) = false := by rw [beq_eq_false_iff_ne]; exact he
          have HN : Hid (s ≠ [] → ∀ k, k < j + 1 → l.getD k [] ≠ s) := fun h k hk => by
            by_cases e : k = j
            · rw [e]; exact he
            · exact HQ.out h k (by omega)
          clear he HQ
          obtain ⟨x, hx⟩ : ∃ x, Hid (l.getD j [] = x) := ⟨_, rfl⟩
          rw [hx.out] at c he1
          go_wp2_with fail
          go_roundw
          case rel => exact ⟨j + 1, by omega, by go_num, trivial, HN⟩
          case measure => simp [intOf]; omega
    · have hlt' : ¬ (j : Int) < 6 := by omega
      have HA : Hid (r = false) := by
        show _ = _
        rw [hr.out]
        by_cases hs : s = []
        · simp [hs]
        · have : l.contains s = false := by
            cases hcn : l.contains s with
            | false => rfl
            | true =>
              obtain ⟨k, hk, e⟩ := List.getElem_of_mem (List.contains_iff_mem.1 hcn)
              have := HQ.out hs k (by rw [HL.out] at hk; omega)
              rw [List.getD, List.getElem?_eq_getElem hk] at this
              exact absurd e this
          rw [this, Bool.and_false]
      clear HQ
      go_wp2_with fail
      go_ret
      exact ⟨by rw [HA.out]; rfl, B⟩
theorem among_any (s : Str) (l : List Str) (hl : l.length = 6) (w : World) : Calls Tryz.prog 72 #[tx s, .agg (l.map tx).toArray] w fun e w' => e = .returned (.bool (s != [] && l.contains s)) ∧ Below w.heap.size w w' := among_row s l hl _ rfl _ rfl w
def cmpW : List Str := [[62], [60], [62, 61], [60, 61], [61, 61], [33, 61]]
def aggW : List Str := [[115, 117, 109], [109, 105, 110], [109, 97, 120], [99, 111, 117, 110, 116], [97, 118, 103], []]
theorem lv_cmp (s : Str) : (s != [] && cmpW.contains s) = (s == [62] || s == [60] || s == [62, 61] || s == [60, 61] || s == [61, 61] || s == [33, 61]) := by
  by_cases h : s = []
  · subst h; decide
  · have : (s != []) = true := by rw [bne_iff_ne]; exact h
    rw [this, Bool.true_and, Bool.eq_iff_iff]
    simp [cmpW, or_assoc]
theorem agg_w (s : Str) : (s != [] && aggW.contains s) = isAggB s := by
  unfold isAggB
  by_cases h : s = []
  · subst h; decide
  · have h1 : (s != []) = true := by rw [bne_iff_ne]; exact h
    rw [h1, Bool.true_and, Bool.eq_iff_iff]
    simp [aggW, or_assoc, h]
set_option maxHeartbeats 4000000 in
theorem level_any (s : Str) (w : World) : Calls Tryz.prog 46 #[tx s] w fun e w' => e = .returned (.int .i64 (lv s - 1)) ∧ Below w.heap.size w w' := by
  have ha := among_any s cmpW rfl w
  rw [lv_cmp] at ha
  simp only [cmpW, List.map_cons, List.map_nil] at ha
  have HV : Hid (lv s = if (s == [62] || s == [60] || s == [62, 61] || s == [60, 61] || s == [61, 61] || s == [33, 61]) = true then 1 else if (s == [43] || s == [45]) = true then 2 else if (s == [42] || s == [47]) = true then 3 else 0) := rfl
  generalize lv s = V at *
  generalize (s == [62] || s == [60] || s == [62, 61] || s == [60, 61] || s == [61, 61] || s == [33, 61]) = c at *
  cases c with
  | true =>
    go_enter Tryz.func46, Tryz.ntmps46
    go_wp2_with fail
    refine ha.mono ?_
    rintro e w1 ⟨rfl, b1⟩
    go_wp2_with fail
    go_ret
    exact ⟨by rw [HV.out]; rfl, b1⟩
  | false =>
    cases h1 : (s == [43]) with
    | true =>
      rw [h1] at HV
      go_enter Tryz.func46, Tryz.ntmps46
      go_wp2_with fail
      refine ha.mono ?_
      rintro e w1 ⟨rfl, b1⟩
      go_wp2_with fail
      go_ret
      exact ⟨by rw [HV.out]; rfl, b1⟩
    | false =>
      cases h2 : (s == [45]) with
      | true =>
        rw [h1, h2] at HV
        go_enter Tryz.func46, Tryz.ntmps46
        go_wp2_with fail
        refine ha.mono ?_
        rintro e w1 ⟨rfl, b1⟩
        go_wp2_with fail
        go_ret
        exact ⟨by rw [HV.out]; rfl, b1⟩
      | false =>
        cases h3 : (s == [42]) with
        | true =>
          rw [h1, h2, h3] at HV
          go_enter Tryz.func46, Tryz.ntmps46
          go_wp2_with fail
          refine ha.mono ?_
          rintro e w1 ⟨rfl, b1⟩
          go_wp2_with fail
          go_ret
          exact ⟨by rw [HV.out]; rfl, b1⟩
        | false =>
          cases h4 : (s == [47]) with
          | true =>
            rw [h1, h2, h3, h4] at HV
            go_enter Tryz.func46, Tryz.ntmps46
            go_wp2_with fail
            refine ha.mono ?_
            rintro e w1 ⟨rfl, b1⟩
            go_wp2_with fail
            go_ret
            exact ⟨by rw [HV.out]; rfl, b1⟩
          | false =>
            rw [h1, h2, h3, h4] at HV
            go_enter Tryz.func46, Tryz.ntmps46
            go_wp2_with fail
            refine ha.mono ?_
            rintro e w1 ⟨rfl, b1⟩
            go_wp2_with fail
            go_ret
            exact ⟨by rw [HV.out]; rfl, b1⟩
end Go.Proofs.YtkppcgimhnocdaaGreatDoor
/- Products bind closer than sums, these than comparisons, all from the left: plain facts. -/
namespace Go.Proofs.YtkppcgimhnocdaaGreatDoor
open Go.RowKit

def lfF : List (Int → Bool) → Int → Bool
  | [a, b], k => a k && b (k + 1)
  | _, _ => false
def lfG (e : Ex) (fs : List (Int → Bool)) (lev : Int) : Bool := if e.k = 5 then decide (lev ≤ lv e.s - 1) && lfF fs (lv e.s - 1) else decide (e.k = 1)
def lfE (e : Ex) : Int → Bool := foldE lfG e
def lfK : List Ex → Int → Bool
  | [a, b], k => lfE a k && lfE b (k + 1)
  | _, _ => false
theorem lfF_map : ∀ l k, lfF (l.map lfE) k = lfK l k
  | [], _ => rfl
  | [_], _ => rfl
  | [_, _], _ => rfl
  | _ :: _ :: _ :: _, _ => rfl
theorem lfE_mk (k p : Int) (o : Bool) (v : Int) (s : Str) (m : List Mt) (r : Int) (b1 b2 b3 b4 : Bool) (ns : List Str) (ks : List Ex) (lev : Int) : lfE ⟨k, p, o, v, s, m, r, b1, b2, b3, b4, ns, ks⟩ lev = if k = 5 then decide (lev ≤ lv s - 1) && lfK ks (lv s - 1) else decide (k = 1) := by
  have h : lfE ⟨k, p, o, v, s, m, r, b1, b2, b3, b4, ns, ks⟩ = lfG ⟨k, p, o, v, s, m, r, b1, b2, b3, b4, ns, ks⟩ (ks.map lfE) := by
    show foldE lfG _ = _
    rw [foldE_eq]
    rfl
  rw [h, ← lfF_map]
  rfl
theorem lfE_bin (p : Int) (s : Str) (b3 b4 : Bool) (ns : List Str) (a b : Ex) (lev : Int) : lfE (eBin p s b3 b4 ns a b) lev = (decide (lev ≤ lv s - 1) && (lfE a (lv s - 1) && lfE b (lv s - 1 + 1))) := by
  unfold eBin
  rw [lfE_mk, if_pos rfl, lfK]
theorem lfE_num (p : Int) (o : Bool) (v lev : Int) : lfE (eNum p o v) lev = true := by
  unfold eNum
  rw [lfE_mk]
  rfl
theorem lv_le (s : Str) : lv s ≤ 3 := by
  unfold lv
  split
  · omega
  · split
    · omega
    · split <;> omega
/-- Operators and numbers, one behind the other. -/
def Tb : Nat → List Tk → Prop
  | 0, T => T = []
  | n + 1, T => ∃ o x r, T = o :: x :: r ∧ o.k = 5 ∧ 1 ≤ lv o.t ∧ x.k = 2 ∧ Tb n r
def Tl (n : Nat) (l : List Tk) : Prop := ∃ T E, Tb n T ∧ l = T ++ [E] ∧ E.k = 0
theorem Tb.snoc {o x : Tk} (h5 : o.k = 5) (hl : 1 ≤ lv o.t) (h2 : x.k = 2) : ∀ {n : Nat} {T : List Tk}, Tb n T → Tb (n + 1) (T ++ [o, x])
  | 0, T, h => by
    have h : T = [] := h
    subst h
    exact ⟨o, x, [], rfl, h5, hl, h2, rfl⟩
  | n + 1, T, h => by
    obtain ⟨o', x', r, rfl, a, b, c, d⟩ := h
    exact ⟨o', x', r ++ [o, x], rfl, a, b, c, Tb.snoc h5 hl h2 d⟩
theorem Tl.next {n : Nat} {l : List Tk} (h : Tl (n + 1) l) : ∃ o x r, l = o :: x :: r ∧ o.k = 5 ∧ 1 ≤ lv o.t ∧ x.k = 2 ∧ Tl n r := by
  obtain ⟨T, E, ⟨o, x, r, rfl, a, b, c, d⟩, rfl, hE⟩ := h
  exact ⟨o, x, r ++ [E], rfl, a, b, c, r, E, d, rfl, hE⟩
theorem Tl.zero {l : List Tk} (h : Tl 0 l) : ∃ E, l = [E] ∧ E.k = 0 := by
  obtain ⟨T, E, h0, rfl, hE⟩ := h
  have h0 : T = [] := h0
  subst h0
  exact ⟨E, rfl, hE⟩
theorem Tl.len : ∀ {n : Nat} {l : List Tk}, Tl n l → l.length = 2 * n + 1
  | 0, l, h => by
    obtain ⟨E, rfl, _⟩ := h.zero
    rfl
  | n + 1, l, h => by
    obtain ⟨o, x, r, rfl, _, _, _, d⟩ := h.next
    simp [d.len]
    omega
/-- The operator that stands there binds no closer. -/
def Hl (lev : Int) (l : List Tk) : Prop := ∀ o r, l = o :: r → o.k = 5 → lv o.t ≤ lev
def Up (lev : Int) (u : List Tk → Rs Ex) : Prop := ∀ n x r, x.k = 2 → Tl n r → ∃ e m r', u (x :: r) = .inr (e, r') ∧ m ≤ n ∧ Tl m r' ∧ Hl lev r' ∧ lfE e lev = true
theorem ch_ok {q lev : Int} {u : List Tk → Rs Ex} (hu : Up lev u) : ∀ (f n : Nat) (e : Ex) (l : List Tk), Tl n l → Hl lev l → lfE e (lev - 1) = true → n < f → ∃ e' m r', chF q lev u f e l = .inr (e', r') ∧ m ≤ n ∧ Tl m r' ∧ Hl (lev - 1) r' ∧ lfE e' (lev - 1) = true
  | 0, n, e, l, _, _, _, hf => by omega
  | f + 1, n, e, l, ht, hh, he, hf => by
    by_cases hop : isOp q lev l = false
    · refine ⟨e, n, l, by rw [chF, if_pos hop], Nat.le_refl _, ht, ?_, he⟩
      intro o r hl hk
      subst hl
      have := hh o r rfl hk
      unfold isOp hd at hop
      simp [hk] at hop
      omega
    · rw [Bool.not_eq_false] at hop
      cases n with
      | zero =>
        obtain ⟨E, rfl, hE⟩ := ht.zero
        unfold isOp hd at hop
        simp [hE] at hop
      | succ n =>
        obtain ⟨o, x, r, rfl, h5, h1, h2, hr⟩ := ht.next
        have hlv : lv o.t = lev := by
          unfold isOp hd at hop
          simpa [h5] using hop
        obtain ⟨y, m, r', hy, hm, htm, hhl, hly⟩ := hu n x r h2 hr
        have hmod : modP q (x :: r) = .inr (⟨false, false, []⟩, x :: r) := by
          unfold modP hasMod hd
          simp [h2]
        obtain ⟨e', m', r'', h, hm', ht', hh', hl'⟩ := ch_ok hu f m (eBin o.p o.t false false [] e y) r' htm hhl (by rw [lfE_bin, hlv, he, show lev - 1 + 1 = lev by omega, hly]; simp) (by omega)
        refine ⟨e', m', r'', ?_, by omega, ht', hh', hl'⟩
        rw [chF, hop, if_neg (by simp)]
        unfold joinP
        rw [List.tail_cons, hmod]
        show bnd (bnd (u (x :: r)) _) _ = _
        rw [hy]
        exact h
theorem chP_ok {q lev : Int} {u : List Tk → Rs Ex} (hu : Up lev u) (hw : ∀ e, lfE e lev = true → lfE e (lev - 1) = true) : Up (lev - 1) (chP q lev u) := by
  intro n x r h2 hr
  obtain ⟨e, m, r', h, hm, ht, hh, hl⟩ := hu n x r h2 hr
  obtain ⟨e', m', r'', h', hm', ht', hh', hl'⟩ := ch_ok (q := q) hu (r'.length + 1) m e r' ht hh (hw e hl) (by rw [ht.len]; omega)
  refine ⟨e', m', r'', ?_, by omega, ht', hh', hl'⟩
  unfold chP
  rw [h]
  exact h'
theorem lf_weak {e : Ex} {a b : Int} (h : lfE e a = true) (hb : b ≤ a) : lfE e b = true := by
  obtain ⟨k, p, o, v, s, m, r, b1, b2, b3, b4, ns, ks⟩ := e
  rw [lfE_mk] at h ⊢
  split
  · rename_i hk
    rw [if_pos hk] at h
    simp only [Bool.and_eq_true, decide_eq_true_eq] at h ⊢
    exact ⟨by omega, h.2⟩
  · rename_i hk
    rw [if_neg hk] at h
    exact h
theorem up_num (q : Int) (d : Nat) : Up 3 (unD q d) := by
  intro n x r h2 hr
  refine ⟨eNum x.p x.o x.n, n, r, ?_, Nat.le_refl _, hr, fun o r' _ _ => lv_le _, lfE_num _ _ _ _⟩
  rw [unD_eq]
  unfold unP sg hd
  simp only [List.headD_cons, h2]
  unfold prmP hd
  simp [h2]
theorem up_cmp (q : Int) (d : Nat) : Up 0 (cmpP q (unD q d)) :=
  chP_ok (lev := 1) (chP_ok (lev := 2) (chP_ok (lev := 3) (up_num q d) fun e h => lf_weak h (by omega)) fun e h => lf_weak h (by omega)) fun e h => lf_weak h (by omega)
/-- Numbers with operators between are read, from the left. -/
theorem binds_read {n : Nat} {x : Tk} {l : List Tk} (h2 : x.k = 2) (hl : Tl n l) : ∃ e, rdP (x :: l) = .inr e ∧ lfE e 0 = true := by
  unfold rdP
  obtain ⟨e, m, r, h, _, ht, hh, hl⟩ := up_cmp (endP (x :: l)) 15 n x l h2 hl
  refine ⟨e, ?_, hl⟩
  unfold whP
  rw [h]
  cases m with
  | zero =>
    obtain ⟨E, rfl, hE⟩ := ht.zero
    show (if (hd _ [E]).k = 0 then _ else _) = _
    rw [if_pos (by exact hE)]
  | succ m =>
    obtain ⟨o, y, r, rfl, h5, h1, _, _⟩ := ht.next
    have := hh o (y :: r) rfl h5
    omega
/-! ### The text -/
def bOp (c : Nat) : Str := match c with
  | 0 => [43]
  | 1 => [45]
  | 2 => [42]
  | 3 => [47]
  | 4 => [62]
  | _ => [61, 61]
def bT : List Nat → Str
  | [] => [49]
  | c :: l => bT l ++ 32 :: (bOp c ++ [32, 49])
theorem bOp_len (c : Nat) : (bOp c).length ≤ 2 := by unfold bOp; split <;> simp
theorem bT_len : ∀ l, (bT l).length ≤ 5 * l.length + 1
  | [] => by simp [bT]
  | c :: l => by
    have := bT_len l
    have := bOp_len c
    rw [bT]
    simp
    omega
theorem bOp_sc (c : Nat) : ∃ p q v, sc (bOp c ++ [32, 49]) = .inr [⟨5, p, bOp c, false, 0, 0⟩, ⟨2, q, [], false, v, 0⟩] := by
  unfold bOp
  split
  · exact ⟨0, 2, 1000000, by kernel_rfl⟩
  · exact ⟨0, 2, 1000000, by kernel_rfl⟩
  · exact ⟨0, 2, 1000000, by kernel_rfl⟩
  · exact ⟨0, 2, 1000000, by kernel_rfl⟩
  · exact ⟨0, 2, 1000000, by kernel_rfl⟩
  · exact ⟨0, 3, 1000000, by kernel_rfl⟩
theorem bOp_lv (c : Nat) : 1 ≤ lv (bOp c) := by
  unfold bOp
  split <;> decide
theorem bT_sc : ∀ l, ∃ x T, sc (bT l) = .inr (x :: T) ∧ x.k = 2 ∧ Tb l.length T
  | [] => ⟨⟨2, 0, [], false, 1000000, 0⟩, [], by kernel_rfl, rfl, rfl⟩
  | c :: l => by
    obtain ⟨x, T, h, h2, hT⟩ := bT_sc l
    obtain ⟨p, q, v, hb⟩ := bOp_sc c
    have hj := sc_join (b := bOp c ++ [32, 49]) h
    rw [hb] at hj
    generalize ((bT l).length + 1 : Nat) = N at hj
    have h1 := bOp_lv c
    rw [bT]
    generalize bOp c = o at *
    exact ⟨x, T ++ [sh N ⟨5, p, o, false, 0, 0⟩, sh N ⟨2, q, [], false, v, 0⟩], hj, h2, Tb.snoc rfl h1 rfl hT⟩
theorem bT_read {l : List Nat} (h : l.length ≤ 20) : scE (bT l) = 0 ∧ ∃ e, rdP (scL (bT l)) = .inr e ∧ lfE e 0 = true := by
  obtain ⟨x, T, hs, h2, hT⟩ := bT_sc l
  have := bT_len l
  obtain ⟨e1, _, e3⟩ := sc_ok (s := bT l) (by omega) hs
  refine ⟨e1, ?_⟩
  rw [e3]
  exact binds_read h2 ⟨T, tEnd (bT l).length, hT, rfl, rfl⟩
end Go.Proofs.YtkppcgimhnocdaaGreatDoor
/- Whether operators are grouped from the left. -/
namespace Go.Proofs.YtkppcgimhnocdaaGreatDoor
open Go.RowKit

/-- A whole expression out of a row of them, where it is asked for. -/
theorem wp_getmg {w : World} {ops : Array Oper} {rest : List Oper} {o : Oper} {a : Act} {Q : Exit → Act → World → Prop} (hgd : Region.wanted o (yielded ops a.tmps) = true) (x : Operand) (ho : o.op = .load 29 x) (b off : Nat) (cs : Array Value) (hx : a.eval x = .pointer (some ⟨b, off, none⟩)) (hr : w.rangeAt b off cs.toList) (hn : cs.size = 13)
    (h : wpList Tryz.prog ops Q rest (a.put o.dst (.agg cs)) w) : wpList Tryz.prog ops Q (o :: rest) a w := by
  refine wpList_step fun K hK => ?_
  rw [if_pos hgd]
  refine wp_load_mid 29 x ho b off hx cs.toList _ hr Tryz.underlying29 rfl (by rw [inf29]; simp [hn]) (hK _ _ ?_)
  simpa using h
theorem lfE_eq (e : Ex) (lev : Int) : lfE e lev = if e.k = 5 then decide (lev ≤ lv e.s - 1) && lfK e.ks (lv e.s - 1) else decide (e.k = 1) := by
  cases e
  rw [lfE_mk]
theorem lfK_no : ∀ (l : List Ex) (k : Int), l.length ≠ 2 → lfK l k = false
  | [], _, _ => rfl
  | [_], _, _ => rfl
  | [_, _], _, h => absurd rfl h
  | _ :: _ :: _ :: _, _, _ => rfl
theorem lfK_two (a b : Ex) (k : Int) : lfK [a, b] k = (lfE a k && lfE b (k + 1)) := rfl
def LeftOK (P : Nat → Prop) (e : Ex) : Prop := ∀ (w : World) (cs : Array Value) (lev : Int), TrP P w e cs → Calls Tryz.prog 25 #[.agg cs, .int .i64 lev] w fun x w' => x = .returned (.bool (lfE e lev)) ∧ Below w.heap.size w w'
theorem lv_ge (s : Str) : 0 ≤ lv s := by
  unfold lv
  split
  · omega
  · split
    · omega
    · split <;> omega
set_option maxHeartbeats 8000000 in
theorem left_ok {P : Nat → Prop} (e : Ex) : LeftOK P e := by
  refine Ex.ind (LeftOK P) ?_ e
  intro e ih w cs lev h
  obtain ⟨vm, vn, ao, cap, rfl, sm, sn, hcap, hkid⟩ := h.parts
  obtain ⟨am, cm, rfl, _⟩ := sm
  obtain ⟨an, cn, rfl, _⟩ := sn
  have HK : Hid _ := hkid
  have HI : Hid _ := ih
  have HE : Hid (lfE e lev = if e.k = 5 then decide (lev ≤ lv e.s - 1) && lfK e.ks (lv e.s - 1) else decide (e.k = 1)) := lfE_eq e lev
  have hLv := fun W => level_any e.s W
  have v1 := lv_le e.s
  have v0 := lv_ge e.s
  clear hkid ih h
  have q0 := heap_new w (.cells (exA e.k e.p e.o e.v e.s (.slice am e.m.length cm) e.r e.b1 e.b2 e.b3 e.b4 (.slice an e.ns.length cn) (.slice ao e.ks.length cap)) 29)
  have B0 := bal (Below.refl w.heap.size w) (.cells (exA e.k e.p e.o e.v e.s (.slice am e.m.length cm) e.r e.b1 e.b2 e.b3 e.b4 (.slice an e.ns.length cn) (.slice ao e.ks.length cap)) 29)
  have z0 := size_le w (.cells (exA e.k e.p e.o e.v e.s (.slice am e.m.length cm) e.r e.b1 e.b2 e.b3 e.b4 (.slice an e.ns.length cn) (.slice ao e.ks.length cap)) 29)
  generalize lv e.s = V at *
  generalize lfE e lev = RES at *
  by_cases h5 : e.k = 5
  · have h5' : (e.k != 5) = false := by rw [bne_eq_false_iff_eq]; exact h5
    have HE2 : Hid (RES = (decide (lev ≤ V - 1) && lfK e.ks (V - 1))) := by show _ = _; rw [HE.out, if_pos h5]
    clear HE h5
    by_cases hl : lev ≤ V - 1
    · by_cases h2 : e.ks.length = 2
      · obtain ⟨a, b, hab⟩ : ∃ a b, e.ks = [a, b] := by
          match hq : e.ks, h2 with
          | [a, b], _ => exact ⟨a, b, rfl⟩
        obtain ⟨bb, off, ca, ea, kda⟩ := HK.out 0 a (by rw [hab]; rfl)
        subst ea
        obtain ⟨bb', off', cb, ea', kdb⟩ := HK.out 1 b (by rw [hab]; rfl)
        obtain ⟨rfl, rfl⟩ : bb = bb' ∧ off = off' := by injection ea' with e1; injection e1 with e1 e2; exact ⟨e1, e2⟩
        have ia := fun W (hW : Below w.heap.size w W) => HI.out a (by rw [hab]; simp) W ca (V - 1) (kda.later hW).t
        have ib := fun W (hW : Below w.heap.size w W) => HI.out b (by rw [hab]; simp) W cb V (kdb.later hW).t
        have ra := fun W (hW : Below w.heap.size w W) => (kda.later hW).r
        have rb := fun W (hW : Below w.heap.size w W) => (kdb.later hW).r
        have na := kda.t.row.1
        have nb := kdb.t.row.1
        have HF : Hid (RES = (lfE a (V - 1) && lfE b V)) := by show _ = _; rw [HE2.out, hab, lfK_two, decide_eq_true hl, Bool.true_and, show V - 1 + 1 = V by omega]
        rw [h2] at q0 B0 z0 hcap ⊢
        clear HK HI HE2 hab h2 ea' kda kdb
        generalize lfE b V = lb at *
        generalize lfE a (V - 1) = la at *
        have hg : V - 1 ≥ lev := hl
        go_enter Tryz.func25, Tryz.ntmps25
        have c0 := (cell_at q0 0).trans rfl
        have c4 := (cell_at q0 4).trans rfl
        go_wp2_with fail
        refine (hLv _).mono ?_
        rintro x w2 ⟨rfl, b2⟩
        have q2 := below_heap b2 q0
        have B2 := B0.trans (b2.mono B0.size)
        have d12 := (cell_at q2 12).trans rfl
        cases la with
        | true =>
          go_wp2_with (refine wp_getmg (by kernel_rfl) _ rfl bb (off + 0 * 13) ca rfl (ra _ B2) na ?_)
          refine (ia _ B2).mono ?_
          rintro x w3 ⟨rfl, b3⟩
          have q3 := below_heap b3 q2
          have B3 := B2.trans (b3.mono B2.size)
          have e12 := (cell_at q3 12).trans rfl
          clear d12
          go_wp2_with (refine wp_getmg (by kernel_rfl) _ rfl bb (off + 1 * 13) cb rfl (rb _ B3) nb ?_)
          refine (ib _ B3).mono ?_
          rintro x w4 ⟨rfl, b4⟩
          have B4 := B3.trans (b4.mono B3.size)
          go_wp2_with fail
          go_ret
          exact ⟨by rw [HF.out]; simp, B4⟩
        | false =>
          go_wp2_with (refine wp_getmg (by kernel_rfl) _ rfl bb (off + 0 * 13) ca rfl (ra _ B2) na ?_)
          refine (ia _ B2).mono ?_
          rintro x w3 ⟨rfl, b3⟩
          have B3 := B2.trans (b3.mono B2.size)
          go_wp2_with fail
          go_ret
          exact ⟨by rw [HF.out]; simp, B3⟩
      · have HF : Hid (RES = false) := by show _ = _; rw [HE2.out, lfK_no _ _ h2, Bool.and_false]
        have h2' : ((e.ks.length : Int) == 2) = false := by rw [beq_eq_false_iff_ne]; omega
        generalize e.ks.length = n at *
        clear HK HI HE2 h2
        have hg : V - 1 ≥ lev := hl
        go_enter Tryz.func25, Tryz.ntmps25
        have c0 := (cell_at q0 0).trans rfl
        have c4 := (cell_at q0 4).trans rfl
        go_wp2_with fail
        refine (hLv _).mono ?_
        rintro x w2 ⟨rfl, b2⟩
        have q2 := below_heap b2 q0
        have B2 := B0.trans (b2.mono B0.size)
        have d12 := (cell_at q2 12).trans rfl
        go_wp2_with fail
        go_ret
        exact ⟨by rw [HF.out]; rfl, B2⟩
    · have HF : Hid (RES = false) := by show _ = _; rw [HE2.out, decide_eq_false hl, Bool.false_and]
      generalize e.ks.length = n at *
      clear HK HI HE2
      have hg : ¬ V - 1 ≥ lev := hl
      go_enter Tryz.func25, Tryz.ntmps25
      have c0 := (cell_at q0 0).trans rfl
      have c4 := (cell_at q0 4).trans rfl
      go_wp2_with fail
      refine (hLv _).mono ?_
      rintro x w2 ⟨rfl, b2⟩
      have B2 := B0.trans (b2.mono B0.size)
      go_wp2_with fail
      go_ret
      exact ⟨by rw [HF.out]; rfl, B2⟩
  · have h5' : (e.k != 5) = true := by rw [bne_iff_ne]; exact h5
    have HF : Hid (RES = (e.k == 1)) := by
      show _ = _
      rw [HE.out, if_neg h5]
      rfl
    generalize e.ks.length = n at *
    clear HK HI HE h5
    go_enter Tryz.func25, Tryz.ntmps25
    have c0 := (cell_at q0 0).trans rfl
    go_wp2_with fail
    go_ret
    exact ⟨by rw [HF.out]; rfl, B0⟩
end Go.Proofs.YtkppcgimhnocdaaGreatDoor
/- Products bind closer than sums, these than comparisons; all from the left. -/
namespace Go.Proofs.YtkppcgimhnocdaaGreatDoor
open Go.RowKit

theorem ix6 : ∀ (c : Nat), c < 6 → ∀ W : World, (Instr.index 51 (.agg #[.string ⟨#[43]⟩, .string ⟨#[45]⟩, .string ⟨#[42]⟩, .string ⟨#[47]⟩, .string ⟨#[62]⟩, .string ⟨#[61, 61]⟩]) (.int .u8 c)).run Tryz.prog W = .ok (tx (bOp c)) W
  | 0, _, W => by kernel_rfl
  | 1, _, W => by kernel_rfl
  | 2, _, W => by kernel_rfl
  | 3, _, W => by kernel_rfl
  | 4, _, W => by kernel_rfl
  | 5, _, W => by kernel_rfl
  | c + 6, h, _ => by omega
def rvc (l : List UInt8) (j : Nat) : List Nat := ((l.take j).map fun b => b.toNat % 6).reverse
theorem rvc_step (l : List UInt8) {j : Nat} (h : j < l.length) : rvc l (j + 1) = (l.getD j 0).toNat % 6 :: rvc l j := by
  unfold rvc
  rw [List.take_succ_eq_append_getElem h, List.map_append, List.reverse_append, List.getD, List.getElem?_eq_getElem h]
  rfl
theorem rvc_len (l : List UInt8) (j : Nat) : (rvc l j).length ≤ j := by
  unfold rvc
  simp
  omega
set_option maxHeartbeats 8000000 in
set_option maxRecDepth 4000 in
theorem binds_any (ta : Option Addr) (n c : Nat) (l : List UInt8) (w : World) (hn : n ≤ 9223372036854775807) (h : Ns w ta n l) (he : Ev w) : Calls Tryz.prog 8 #[.slice ta n c] w fun e w' => e = .returned (.bool true) ∧ Below w.heap.size w w' := by
  have hkn := known_any w he
  obtain ⟨hl0, hcs⟩ := h
  have HL : Hid (l.length = n) := hl0
  clear hl0
  by_cases h20 : n ≤ 20
  · have h20' : ¬ (20 : Int) < n := by omega
    have HT : Hid (∀ j, j ≤ n → (bT (rvc l j)).length ≤ 101) := fun j hj => by
      have := bT_len (rvc l j)
      have := rvc_len l j
      omega
    go_enter Tryz.func8, Tryz.ntmps8
    go_wp2_with fail
    refine hkn.mono ?_
    rintro e w1 ⟨rfl, b1⟩
    go_wp2_with fail
    go_loopw [3, 4] (fun t i wr => ∃ j : Nat, j ≤ n ∧ t = tx (bT (rvc l j)) ∧ i = .int .i64 j ∧ w1 = wr) (fun _ i _ => n - (intOf i).toNat)
    case atStart => exact ⟨0, by omega, rfl, rfl, rfl⟩
    case round =>
      obtain ⟨j, hj, rfl, rfl, rfl⟩ := hrel
      have hR := HT.out j hj
      by_cases hlt : j < n
      · have hlt' : (j : Int) < n := by omega
        obtain ⟨b, off, rfl, hc⟩ := hcs (by omega)
        have c0 := hc j hlt
        have c1 := (b1.cell (World.block_lt_of_cell? _ _ c0)).trans c0
        have HS : Hid (rvc l (j + 1) = (l.getD j 0).toNat % 6 :: rvc l j) := rvc_step l (by rw [HL.out]; exact hlt)
        clear hc c0
        generalize (l.getD j 0).toNat = v at *
        have hix := ix6 (v % 6) (by omega)
        have hm : (v : Int) % 6 = ((v % 6 : Nat) : Int) := by omega
        have ho := bOp_len (v % 6)
        obtain ⟨o, HO⟩ : ∃ o : Str, Hid (bOp (v % 6) = o) := ⟨_, rfl⟩
        obtain ⟨m, HM⟩ : ∃ m : Nat, Hid (v % 6 = m) := ⟨_, rfl⟩
        rw [HO.out] at hix ho
        rw [HM.out] at hix hm
        obtain ⟨R, HR⟩ : ∃ R : Str, Hid (bT (rvc l j) = R) := ⟨_, rfl⟩
        rw [HR.out] at hR ⊢
        go_wp2_with (refine wp_add rfl 9 9 _ _ rfl _ _ rfl rfl (by simp <;> omega) ?_)
        go_roundw
        case rel => exact ⟨j + 1, by omega, by rw [HS.out, bT, HO.out, HR.out], by go_num, trivial⟩
        case measure => simp [intOf]; omega
      · have hlt' : ¬ (j : Int) < n := by omega
        have hrd := bT_read (l := rvc l j) (by have := rvc_len l j; omega)
        have hps := parse_any (bT (rvc l j)) w1 (by omega) (he.later b1)
        have HV : Hid (psE (bT (rvc l j)) = 0 ∧ lfE (psX (bT (rvc l j))) 0 = true) := by
          obtain ⟨e1, e, e2, e3⟩ := hrd
          refine ⟨?_, ?_⟩
          · unfold psE rdE
            rw [if_pos e1, e2]
          · unfold psX rdX
            rw [if_pos e1, e2]
            exact e3
        clear hrd
        obtain ⟨R, HR⟩ : ∃ R : Str, Hid (bT (rvc l j) = R) := ⟨_, rfl⟩
        rw [HR.out] at hR hps HV ⊢
        rw [HV.out.1] at hps
        have hlf := fun W cs (hT : Tr w1.heap.size W (psX R) cs) => left_ok (P := fun b => w1.heap.size ≤ b) (psX R) W cs 0 hT
        simp only [HV.out.2] at hlf
        generalize psA R = pa at *
        go_wp2_with fail
        refine hps.mono ?_
        rintro e w5 ⟨cs, rfl, t5, b5⟩
        have row := t5.row
        obtain ⟨vm, vn, ao, cap, ecs, sm, sn, _, _⟩ := t5.parts
        obtain ⟨am, cm, rfl, _⟩ := sm
        obtain ⟨an, cn, rfl, _⟩ := sn
        generalize psX R = X at *
        subst ecs
        have q5 := heap_new w5 (.cells zE 29)
        have B5 := b1.trans (b5.mono b1.size)
        have zB := B5.size
        have zb := b5.size
        have Ba := bal B5 (.cells zE 29)
        have T5 : Hid _ := t5
        clear hps
        go_wp2_with (refine wp_put rfl 29 _ _ rfl w5.heap.size (exA X.k X.p X.o X.v X.s (.slice am X.m.length cm) X.r X.b1 X.b2 X.b3 X.b4 (.slice an X.ns.length cn) (.slice ao X.ks.length cap)) rfl rfl _ 29 q5 13 inf29 rfl row ?_; intro w6 q6 o6 z6; clear z6; have x0 := (cell_at q6 0).trans rfl; have x1 := (cell_at q6 1).trans rfl; have x2 := (cell_at q6 2).trans rfl; have x3 := (cell_at q6 3).trans rfl; have x4 := (cell_at q6 4).trans rfl; have x5 := (cell_at q6 5).trans rfl; have x6 := (cell_at q6 6).trans rfl; have x7 := (cell_at q6 7).trans rfl; have x8 := (cell_at q6 8).trans rfl; have x9 := (cell_at q6 9).trans rfl; have x10 := (cell_at q6 10).trans rfl; have x11 := (cell_at q6 11).trans rfl; have x12 := (cell_at q6 12).trans rfl)
        have B6 := ((Off.of Ba []).trans o6 (by simp <;> omega)).below (by simp)
        have T6 : Hid (Tr w1.heap.size w6 X (exA X.k X.p X.o X.v X.s (.slice am X.m.length cm) X.r X.b1 X.b2 X.b3 X.b4 (.slice an X.ns.length cn) (.slice ao X.ks.length cap))) := Tr.later T5.out (((Off.of (bal (Below.refl w5.heap.size w5) (.cells zE 29)) []).trans o6 (by simp)).below (by simp))
        refine (hlf _ _ T6.out).mono ?_
        rintro e w7 ⟨rfl, b7⟩
        go_wp2_with fail
        go_ret
        exact ⟨by simp, B6.trans (b7.mono B6.size)⟩
  · have h20' : (20 : Int) < n := by omega
    go_enter Tryz.func8, Tryz.ntmps8
    go_wp2_with fail
    refine hkn.mono ?_
    rintro e w1 ⟨rfl, b1⟩
    go_wp2_with fail
    go_ret
    exact ⟨rfl, b1⟩
end Go.Proofs.YtkppcgimhnocdaaGreatDoor
/- ExprBinds: for every input the law returns true, and its arguments read as they did: the row, and its card, tied to the program's text. Conditions: none beyond the card's own. -/
namespace Go.Proofs.YtkppcgimhnocdaaGreatDoor.exprBindsRow
open Go.ChangeShapes Go.WideShapes Go.ChangeAt Go.RowKit Go.Joins Go.ChangeMaps

theorem own : ownKnob Tryz.prog.godebug = none := by kernel_rfl
set_option maxRecDepth 100000 in
theorem lifted (os : Os) (started : os.Started) (H : Type) (enc : TypeId × Value → H) :
    ReturnsInHanded {} Tryz.checked os 8 .any (fun w args => (Rows.exprBindsSpec.pre enc Tryz.prog Tryz.f8 Rows.exprBindsRow.domain false w args ∧ laidMetH Tryz.prog Rows.exprBindsRow.laid w) ∧ sizedMet enc Tryz.prog Tryz.f8 (OpenSpec.ofChange Rows.exprBindsSpec) false w args)
      (Rows.exprBindsSpec.post enc Tryz.prog Tryz.f8 false true false false) := by
  refine lift_env (fun _ _ _ hh h => h.of_heap hh) (C := Tryz.checked) (X := fun w _ => laidMetH Tryz.prog Rows.exprBindsRow.laid w) own started (by kernel_rfl) Tryz.func8
    (ChangeSpec.witness_shaped (enc := enc) (C := Tryz.checked) (os := os) (X := fun w _ => laidMetH Tryz.prog Rows.exprBindsRow.laid w) false (World.laidAll Tryz.prog os Rows.exprBindsRow.laid) #[.slice none 0 0] 8 (World.laidAll_os _ _ _)
      (World.shaped_of_ZipB (by kernel_rfl) (by kernel_rfl)) (by kernel_rfl) (by kernel_rfl) (by kernel_rfl)
      (by rw [MakeChecks.laidMetH_plain _ _ _ (by kernel_rfl)]; exact laidMet_laidAll _ (by kernel_rfl) (by kernel_rfl))) ?_
  intro W base args ds gs before hval0 hW hsh hL
  have hval : ∀ (j : Nat) t v, Tryz.f8.params[j]? = some t → args[j]? = some v → Value.okWide Tryz.prog W .any base t v := hval0
  have hW' := hW
  obtain ⟨p, q, hA0, hV, rfl, hfz, hnd⟩ := hW
  have hA : DataW.TrodAll enc Tryz.prog W 0 (fun _ => true) true Tryz.f8.params.toList args.toList ds p := hA0
  rw [Tryz.params8] at hA hval
  obtain ⟨v0, vs0, d0, ds0, p0, q0, hargs, rfl, rfl, h0, r0⟩ := trodAll_cons hA
  obtain ⟨rfl, rfl, rfl⟩ := trodAll_nil r0
  obtain rfl : args = #[v0] := by cases args; simp_all
  obtain ⟨rfl, rfl⟩ := trodVars_none hV
  have k0 := h0
  have lt0 : ∀ x ∈ p0, x.block < W.heap.size := by obtain ⟨m, hm⟩ := k0; exact DataW.trod_lt m _ _ _ hm
  obtain ⟨xa0, len0, cap0, rfl⟩ := okWide_slice Tryz.underlying50 (hval 0 50 v0 rfl rfl)
  obtain ⟨l0, hs0, hm0⟩ := bytes_of h0
  clear hA0 hval0
  simp only [List.append_nil] at hW'
  refine (binds_any xa0 len0 cap0 l0 W hm0  hs0 (env_of hsh hL)).mono fun e W' ⟨he, hg⟩ => ?_
  subst he
  exact ⟨_, rfl, _, _, _, [], _, [], hW', trodAll_mk1 (shut_bool Tryz.underlying4 _), (trodAll_cons_mk (Below.trod laidOut (by kernel_rfl) (of_decide_eq_true (by kernel_rfl)) k0 hg lt0) trodAll_mk0), rfl, hg.frame _, fun h => by cases h⟩

theorem holds : Rows.ExprBindsSaid :=
  OpenClaim.holds_of_wide 8 Tryz.f8 rfl rfl rfl rfl rfl rfl rfl ⟨rfl, rfl, rfl, rfl, rfl⟩ rfl rfl rfl rfl rfl (by kernel_rfl) Tryz.func8 (by kernel_rfl)
    (of_decide_eq_true (by kernel_rfl)) (by unfold Func.isWrapper; first | (rw [if_pos (by decide +kernel)]; kernel_rfl) | (rw [if_neg (by decide +kernel)]; exact ⟨rfl, rfl⟩))
    (fun os started H enc _ => lifted os started H enc)
end Go.Proofs.YtkppcgimhnocdaaGreatDoor.exprBindsRow
namespace Go.Proofs.YtkppcgimhnocdaaGreatDoor
open Go
theorem exprBinds_card : Rows.ExprBindsCardSaid :=
  Claim7.holds_tied_plain_at .later [] [.data, .data, .data, .data, .sentinel, .sentinel, .pinned] true (true, "c1cea7cbe15cbc77f432ea533c39a2743800b6a3c2a517e17a640eef7bc342ac") true exprBindsRow.holds (fun _ h => by cases h) (by kernel_rfl) (fun _ h => by cases h) exprBinds_row_tie rfl ⟨rfl, rfl⟩ (by kernel_rfl) rfl
    (fun f fn hf hfn => by
      obtain rfl : f = 8 := Option.some.inj ((show Tryz.prog.funcNamed "spillway/spillwaylaw8.ExprBinds" = some 8 by kernel_rfl).symm.trans hf) |>.symm
      obtain rfl : fn = Tryz.f8 := (Option.some.inj (Tryz.func8.symm.trans hfn)).symm
      exact ⟨by kernel_rfl, fun j t ht => by
        rw [Tryz.params8] at ht
        have hm : t ∈ [50] := by simpa using Array.mem_of_getElem? ht
        have hall : ([50].all fun u => !Tryz.prog.wantsStandIn u) = true := by kernel_rfl
        exact (show Tryz.prog.wantsStandIn t = false by simpa using List.all_eq_true.1 hall t hm)⟩)
    (by kernel_rfl)
end Go.Proofs.YtkppcgimhnocdaaGreatDoor
