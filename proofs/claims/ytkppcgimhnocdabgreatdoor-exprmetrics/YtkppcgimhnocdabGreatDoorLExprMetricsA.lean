/- ExprMetrics: for every input the law returns true, and its arguments read as they did: the row, and its card, tied to the program's text. Conditions: none beyond the card's own. -/
import Derived.Test.YtkppcgimhnocdabGreatDoorMB
import Derived.Test.YtkppcgimhnocdabGreatDoorRows
import Derived.ProofKit
import Derived.OpenShut
import Derived.LaidMore
import Derived.Lay
import Derived.SevenTiedAt
import Derived.Stop.Joined
import Derived.Lib.SmallJoins
import Derived.Lib.LaidTab
import Derived.Stop.LaidErr
import Derived.ChangeMaps5
import Derived.Deep.SlicePairs
import Derived.SliceStrings
import Derived.HandedShaped
import Derived.Shelf.Vars
import Derived.Test.YtkppcgimhnocdabGreatDoorMX
import Derived.Test.YtkppcgimhnocdabGreatDoorMO
import Derived.Test.YtkppcgimhnocdabGreatDoorMS
import Derived.Test.YtkppcgimhnocdabGreatDoorTie
import Derived.Test.YtkppcgimhnocdabGreatDoorCards
/- What is handed in: slices of texts, of bytes out of their readings; what the library's variables hold when a call begins. -/
namespace Go.Proofs.YtkppcgimhnocdabGreatDoor
open Go.ChangeShapes Go.WideShapes Go.ChangeAt Go.RowKit Go.Deep

theorem laidOut : laidOutB Tryz.prog = true := by kernel_rfl
theorem mx_of {W : World} (h : W.ShapedOpen Tryz.prog) : Mx W :=
  cell_of_shapedOpen_int (g := 3) (t := 3) (zero := #[.int .i64 0]) (k := .i64) h (of_decide_eq_true (by kernel_rfl)) (by kernel_rfl) rfl (by kernel_rfl) (by kernel_rfl) Tryz.underlying3
theorem tx_of (s : ByteArray) : ∃ l : Str, (⟨l.toArray⟩ : ByteArray) = s ∧ l.length = s.size := ⟨s.data.toList, Lib.mk_data s, by rw [Array.length_toList]; rfl⟩
def Ns (w : World) (ao : Option Addr) (n : Nat) (l : List UInt8) : Prop :=
  l.length = n ∧ (0 < n → ∃ b off, ao = some ⟨b, off, none⟩ ∧ ∀ j, j < n → w.cell? ⟨b, off + j, none⟩ = some (.int .u8 (l.getD j 0).toNat))
theorem bytes_of {H : Type} {enc : TypeId × Value → H} {W : World} {xa : Option Addr} {len cap : Nat} {x : DataW H × List MemPlace}
    (h : ∃ fuel, DataW.trod enc Tryz.prog W 0 (fun _ => true) true fuel 44 (Value.slice xa len cap).cells.toList = some x) :
    ∃ l, Ns W xa len l ∧ len ≤ 9223372036854775807 := by
  obtain ⟨fuel, hf⟩ := h
  rcases open_ints Tryz.underlying44 Tryz.underlying5 (by kernel_rfl) hf with ⟨hcs, hx⟩ | ⟨a, len', cap', zs, hcs, _, hl, hm, hlen, hx, hel, hw⟩
  · simp [Value.cells] at hcs
    obtain ⟨rfl, rfl, rfl⟩ := hcs
    exact ⟨[], ⟨rfl, fun h => by omega⟩, by omega⟩
  · simp [Value.cells] at hcs
    obtain ⟨rfl, rfl, rfl⟩ := hcs
    have hss : len ≤ zs.length := by rw [hlen]; split <;> omega
    refine ⟨(List.range len).map (fun i => UInt8.ofNat (zs.getD i 0).toNat), ⟨by simp, fun hp => ?_⟩, by unfold maxLen at hm; omega⟩
    obtain ⟨b, off, spot⟩ := a
    have hc := hel 0 (by omega)
    have hspot : spot = none := by simpa [Addr.add] using World.cell?_spot hc
    subst hspot
    refine ⟨b, off, rfl, fun j hj => ?_⟩
    have q0 := hel j (by omega)
    rw [Addr.add_lit] at q0
    rw [q0]
    have hm2 : zs.getD j 0 ∈ zs := by
      have hj2 : j < zs.length := by omega
      simp [List.getD, List.getElem?_eq_getElem hj2]
    have hwf := hw _ hm2
    have hb : 0 ≤ zs.getD j 0 ∧ zs.getD j 0 ≤ 255 := by simpa [Lit.wf, IntKind.min, IntKind.max, IntKind.signed, IntKind.bits] using hwf
    have e : ((List.range len).map (fun i => UInt8.ofNat (zs.getD i 0).toNat)).getD j 0 = UInt8.ofNat (zs.getD j 0).toNat := by simp [List.getD, hj]
    rw [e, UInt8.toNat_ofNat']
    congr 2
    omega
theorem lift_env {H : Type} {enc : TypeId × Value → H} {a : Assume} {C : Checked} {os : Os} {f : FuncId} {fn : Func} {s : ChangeSpec} {conds : List PathCond} {apart fresh handsOn again : Bool} {X : World → Array Value → Prop} (hX : ∀ w w' args, w.heap = w'.heap → X w args → X w' args)
    (own : ownKnob C.prog.godebug = none) (started : os.Started) (noInit : C.prog.inits.idxOf? f = none) (hfn : C.prog.funcs[f]? = some fn)
    (witness : ∃ (w : World) (tape : Tape) (i : Input), w.os = os ∧ (w.forCall tape i).Shaped C.prog ∧ i.vars = [] ∧ Input.okWide C.prog (w.forCall tape i) .any w.heap.size f i ∧
      ((s.pre enc C.prog fn conds apart (w.forCall tape i).memory i.args ∧ X (w.forCall tape i).memory i.args) ∧ sizedMet enc C.prog fn (OpenSpec.ofChange s) apart (w.forCall tape i).memory i.args) ∧ a.holds C.prog (lone (Frame.enter C.prog f i.args .normal) [] (w.forCall tape i)))
    (contract : ∀ (W : World) (base : Nat) (args : Array Value) (ds gs : List (DataW H)) (before : List MemPlace),
      (∀ (j : Nat) t v, fn.params[j]? = some t → args[j]? = some v → Value.okWide C.prog W .any base t v) →
      DataW.Whole enc C.prog fn.params.toList s.vars apart W args.toList ds gs before → W.ShapedOpen C.prog → X W args →
      Calls C.prog f args W fun e W' => ∃ v, e = .returned v ∧ s.post enc C.prog fn apart fresh handsOn again W args v W') :
    ReturnsInHanded a C os f .any (fun w args => (s.pre enc C.prog fn conds apart w args ∧ X w args) ∧ sizedMet enc C.prog fn (OpenSpec.ofChange s) apart w args) (s.post enc C.prog fn apart fresh handsOn again) := by
  refine returnsInHanded_of_calls own started noInit witness ?_
  intro w tape i _ hsh _ hok hpre _
  obtain ⟨_, _, _, fn', hfn', _, _, _, _, hval⟩ := hok
  have e : fn' = fn := Option.some.inj (hfn'.symm.trans hfn)
  subst e
  obtain ⟨⟨⟨ds, gs, before, hw, hc⟩, hx⟩, hz⟩ := hpre
  have hw' := DataW.Whole.of_heap (w' := w.forCall tape i) (by rfl) hw
  refine (contract (w.forCall tape i) w.heap.size i.args ds gs before hval hw' hsh (hX _ _ _ (by rfl) hx)).mono fun e W' ⟨v, he, hp⟩ => ?_
  subst he
  exact ChangeSpec.post_blind hp

/-! ### What the library's variables hold when a call begins -/
theorem gES : Tryz.prog.globalNamed "strconv.ErrSyntax" = some 4 := by kernel_rfl
theorem gER : Tryz.prog.globalNamed "strconv.ErrRange" = some 5 := by kernel_rfl
theorem tES : (Tryz.prog.globals[4]?).map (·.type) = some 124 := by kernel_rfl
theorem tER : (Tryz.prog.globals[5]?).map (·.type) = some 124 := by kernel_rfl
theorem c141 : Tryz.prog.cellsOf 209 = 1 := by kernel_rfl
theorem c9 : Tryz.prog.cellsOf 9 = 1 := by kernel_rfl
theorem starE : "*" ++ "errors.errorString" = "*errors.errorString" := by decide
theorem rowES (u : TypeId) (h : Tryz.prog.typeName? 3 u = some "*errors.errorString") : u = 207 :=
  typeName_ptr_named (nm := "errors.errorString") (by rw [starE]; kernel_rfl) (by kernel_rfl) (by decide) u (by rw [starE]; exact h)
theorem env_of {W : World} (hsh : W.ShapedOpen Tryz.prog) (h : laidMetH Tryz.prog Rows.exprCapsRow.laid W) : Ev W := by
  rw [MakeChecks.laidMetH_plain _ _ _ (by kernel_rfl)] at h
  have h2 := laidMet.tail (laidMet.tail h)
  have h4 := laidMet.tail (laidMet.tail h2)
  have h5 := laidMet.tail h4
  refine ⟨mx_of hsh, ?_, ?_, ?_⟩
  · obtain ⟨a0, s0, hv0, -, -, -⟩ := laid_sentinel h5 gES tES Tryz.underlying124 rowES Tryz.underlying207 Tryz.underlying209 rfl rfl Tryz.underlying9 c141 c9
    have h0 := World.var?_cell gES hv0 0
    exact ⟨_, by simpa using h0, Or.inr ⟨_, _, rfl⟩⟩
  · obtain ⟨a0, s0, hv0, -, -, -⟩ := laid_sentinel h4 gER tER Tryz.underlying124 rowES Tryz.underlying207 Tryz.underlying209 rfl rfl Tryz.underlying9 c141 c9
    have h0 := World.var?_cell gER hv0 0
    exact ⟨_, by simpa using h0, Or.inr ⟨_, _, rfl⟩⟩
  · exact Lib.tabIs_of_head (g := 2) (t := 189) (e := 24) (n := 20) (by kernel_rfl) (by kernel_rfl) Tryz.underlying189 Tryz.underlying24 (by kernel_rfl) (by kernel_rfl) h2
end Go.Proofs.YtkppcgimhnocdabGreatDoor
/- What can be said of all that the reader answers: plain facts. -/
namespace Go.Proofs.YtkppcgimhnocdabGreatDoor
open Go.RowKit

/-- A matcher that was read. -/
def MO (T : Tk → Prop) (x : Mt) : Prop := (∃ t, T t ∧ t.k = 1 ∧ x = ⟨nmL, 1, t.t⟩) ∨ ∃ a b c, T a ∧ T b ∧ T c ∧ a.k = 1 ∧ b.k = 5 ∧ mkd b.t ≠ 0 ∧ c.k = 4 ∧ x = ⟨a.t, mkd b.t, c.t⟩
/-- Names that were read, by one of two words, or none. -/
def GO (T : Tk → Prop) (b c : Bool) (ns : List Str) : Prop := (b = false ∧ c = false ∧ ns = []) ∨ (b ≠ c ∧ fewN ns = true ∧ ∀ n ∈ ns, ∃ t, T t ∧ t.k = 1 ∧ n = t.t)
structure RdOK (T : Tk → Prop) (X : Nat → Ex → Prop) : Prop where
  num : ∀ t, T t → t.k = 2 → X 1 (eNum t.p t.o t.n)
  sel : ∀ p m r, (∀ x ∈ m, MO T x) → m.length ≤ 8 → (r = 0 ∨ ∃ t, T t ∧ t.k = 3 ∧ r = t.d) → X 1 (eSel p m r)
  call : ∀ n t a, T t → t.k = 1 → isAggB t.t = false → isModB t.t = false → X n a → X (n + 1) (eCall t.p t.t a)
  agg : ∀ n t b1 b2 ns a, T t → isAggB t.t = true → GO T b1 b2 ns → X n a → X (n + 1) (eAgg t.p t.t b1 b2 ns a)
  bin : ∀ n m t b3 b4 ns a b, T t → t.k = 5 → 1 ≤ lv t.t → GO T b3 b4 ns → X n a → X m b → X (n + m + 1) (eBin t.p t.t b3 b4 ns a b)
  neg : ∀ n t a, T t → X n a → X (n + 1) (eNeg t.p a)
def All (T : Tk → Prop) (l : List Tk) : Prop := ∀ t ∈ l, T t
theorem All.tail {T : Tk → Prop} {l : List Tk} (h : All T l) : All T l.tail := fun t ht => h t (List.mem_of_mem_tail ht)
/-- What comes of so many signs. -/
def Oc {α : Type} (T : Tk → Prop) (E : Int → Prop) (A : Nat → α → Prop) (n : Nat) (a : Rs α) : Prop := (∀ er, a = .inl er → E er.1 ∧ (er.2 = 71 ∨ er.2 = 72 ∨ er.2 = 32)) ∧ ∀ x r, a = .inr (x, r) → ∃ k, A k x ∧ k + r.length ≤ n ∧ All T r
section
variable {T : Tk → Prop} {E : Int → Prop} {q : Int}
theorem Oc.good {α : Type} {A : Nat → α → Prop} {n k : Nat} {x : α} {r : List Tk} (h : A k x) (hn : k + r.length ≤ n) (hr : All T r) : Oc T E A n (.inr (x, r)) := by
  refine ⟨fun er h' => (by cases h'), fun y s h' => ?_⟩
  injection h' with h'
  injection h' with h1 h2
  subst h1 h2
  exact ⟨k, h, hn, hr⟩
theorem Oc.badly {α : Type} {A : Nat → α → Prop} {n : Nat} {p c : Int} (h : E p) (hc : c = 71 ∨ c = 72 ∨ c = 32) : Oc T E A n (.inl (p, c)) := by
  refine ⟨fun er h' => ?_, fun y s h' => by cases h'⟩
  injection h' with h'
  subst h'
  exact ⟨h, hc⟩
theorem Oc.mono {α : Type} {A : Nat → α → Prop} {n m : Nat} {a : Rs α} (h : Oc T E A n a) (hn : n ≤ m) : Oc T E A m a := ⟨h.1, fun x r hx => by
  obtain ⟨k, h1, h2, h3⟩ := h.2 x r hx
  exact ⟨k, h1, by omega, h3⟩⟩
theorem Oc.bnd {α β : Type} {A : Nat → α → Prop} {B : Nat → β → Prop} {n m : Nat} {a : Rs α} {f : α × List Tk → Rs β} (h : Oc T E A n a) (hk : ∀ x r k, A k x → k + r.length ≤ n → All T r → Oc T E B m (f (x, r))) : Oc T E B m (Go.Proofs.YtkppcgimhnocdabGreatDoor.bnd a f) := by
  cases ha : a with
  | inl er =>
    refine ⟨fun e h' => ?_, fun y s h' => by cases h'⟩
    injection h' with h'
    subst h'
    exact h.1 er ha
  | inr x =>
    obtain ⟨x, r⟩ := x
    obtain ⟨k, h1, h2, h3⟩ := h.2 x r ha
    exact hk x r k h1 h2 h3
theorem hd_mem {l : List Tk} (h : (hd q l).k ≠ 0) : ∃ t l', l = t :: l' := by
  cases l with
  | nil => exact absurd rfl h
  | cons t l' => exact ⟨t, l', rfl⟩
theorem sg_kt {t : Tk} {s : Str} (h : sg t s = true) : t.k = 5 ∧ t.t = s := by
  unfold sg at h
  simpa using h
theorem hd_sg {l : List Tk} {s : Str} (h : sg (hd q l) s = true) : ∃ t l', l = t :: l' ∧ t.k = 5 ∧ t.t = s := by
  obtain ⟨h1, h2⟩ := sg_kt h
  obtain ⟨t, l', rfl⟩ := hd_mem (q := q) (l := l) (by rw [h1]; decide)
  exact ⟨t, l', rfl, h1, h2⟩
def Pl (T : Tk → Prop) (E : Int → Prop) (q : Int) : Prop := (∀ t, T t → E t.p) ∧ E q
theorem Pl.hd (hE : Pl T E q) {l : List Tk} (h : All T l) : E (hd q l).p := by
  cases l with
  | nil => exact hE.2
  | cons t l => exact hE.1 t (h t (by simp))
def In {α : Type} (T : Tk → Prop) (E : Int → Prop) (A : Nat → α → Prop) (f : List Tk → Rs α) : Prop := ∀ l, All T l → Oc T E A l.length (f l)
theorem in_nmI (hE : Pl T E q) : In T E (fun k n => 1 ≤ k ∧ ∃ t, T t ∧ t.k = 1 ∧ n = t.t) (nmI q) := by
  intro l h
  unfold nmI
  split
  · rename_i hk
    obtain ⟨t, l, rfl⟩ := hd_mem (q := q) (l := l) (by rw [hk]; decide)
    exact Oc.good (k := 1) ⟨Nat.le_refl _, t, h t (by simp), hk, rfl⟩ (by simp; omega) h.tail
  · exact Oc.badly (hE.hd h) (Or.inl rfl)
theorem in_mtI (hE : Pl T E q) : In T E (fun k n => 1 ≤ k ∧ MO T n) (mtI q) := by
  intro l h
  unfold mtI
  split
  · exact Oc.badly (hE.hd h) (Or.inl rfl)
  · rename_i h1
    split
    · exact Oc.badly (hE.hd h.tail) (Or.inl rfl)
    · rename_i h2
      split
      · exact Oc.badly (hE.hd h.tail.tail) (Or.inl rfl)
      · rename_i h3
        rw [Decidable.not_not] at h1 h3
        rw [not_or, Decidable.not_not] at h2
        obtain ⟨a, l, rfl⟩ := hd_mem (q := q) (l := l) (by rw [h1]; decide)
        obtain ⟨b, l, rfl⟩ := hd_mem (q := q) (l := l) (by rw [show (hd q l).k = 5 from h2.1]; decide)
        obtain ⟨c, l, rfl⟩ := hd_mem (q := q) (l := l) (by rw [show (hd q l).k = 4 from h3]; decide)
        exact Oc.good (k := 1) ⟨Nat.le_refl _, Or.inr ⟨a, b, c, h a (by simp), h b (by simp), h c (by simp), h1, h2.1, h2.2, h3, rfl⟩⟩ (by simp; omega) h.tail.tail.tail
theorem in_lsF {α : Type} {M : α → Prop} {item : List Tk → Rs α} {cl : Str} {few : List α → Bool} (hE : Pl T E q) (hi : In T E (fun k n => 1 ≤ k ∧ M n) item) : ∀ (f : Nat) (first : Bool) (acc : List α) (l : List Tk), (∀ x ∈ acc, M x) → All T l → Oc T E (fun _ ns => (∀ x ∈ ns, M x) ∧ few ns = true) l.length (lsF q cl item few f first acc l)
  | 0, _, _, l, _, h => Oc.badly (hE.hd h) (Or.inl rfl)
  | f + 1, first, acc, l, ha, h => by
    rw [lsF]
    split
    · split
      · rename_i hf
        exact Oc.good (k := 0) ⟨ha, hf⟩ (by simp) h.tail
      · exact Oc.badly (hE.hd h) (Or.inr (Or.inr rfl))
    · split
      · exact Oc.badly (hE.hd h) (Or.inl rfl)
      · have hr : All T (if first = true then l else l.tail) := by
          cases first
          · exact h.tail
          · exact h
        have hl : (if first = true then l else l.tail).length ≤ l.length := by cases first <;> simp
        refine ((hi _ hr).mono hl).bnd ?_
        intro x r k hk hkn hr'
        refine (in_lsF hE hi f false (acc ++ [x]) r ?_ hr').mono (by omega)
        intro y hy
        rcases List.mem_append.1 hy with hy | hy
        · exact ha y hy
        · simp at hy
          subst hy
          exact hk.2
theorem in_nmP (hE : Pl T E q) : In T E (fun _ ns => (∀ n ∈ ns, ∃ t, T t ∧ t.k = 1 ∧ n = t.t) ∧ fewN ns = true) (nmP q) := by
  intro l h
  unfold nmP
  split
  · exact (in_lsF hE (in_nmI hE) _ _ _ _ (fun x hx => by simp at hx) h.tail).mono (by simp)
  · exact Oc.badly (hE.hd h) (Or.inl rfl)
theorem in_brP (hE : Pl T E q) (a : List Mt) (ha : ∀ x ∈ a, MO T x) (hl : a.length ≤ 8) : In T E (fun _ ns => (∀ x ∈ ns, MO T x) ∧ fewM ns = true) (brP q a) := by
  intro l h
  unfold brP
  split
  · exact (in_lsF hE (in_mtI hE) _ _ _ _ ha h.tail).mono (by simp)
  · exact Oc.good (k := 0) ⟨ha, by unfold fewM; simpa using hl⟩ (by omega) h
theorem in_wnP (hE : Pl T E q) : In T E (fun _ r => r = 0 ∨ ∃ t, T t ∧ t.k = 3 ∧ r = t.d) (wnP q) := by
  intro l h
  unfold wnP
  split
  · exact Oc.good (k := 0) (Or.inl rfl) (by omega) h
  · split
    · exact Oc.badly (hE.hd h.tail) (Or.inl rfl)
    · rename_i h3
      split
      · exact Oc.badly (hE.hd h.tail.tail) (Or.inl rfl)
      · rw [Decidable.not_not] at h3
        obtain ⟨a, l', e⟩ := hd_mem (q := q) (l := l.tail) (by rw [h3]; decide)
        refine Oc.good (k := 0) (Or.inr ⟨a, h.tail a (by rw [e]; simp), ?_, ?_⟩) (by simp; omega) h.tail.tail.tail
        · rw [e] at h3; exact h3
        · rw [e]; rfl
variable {X : Nat → Ex → Prop}
theorem in_selP (hE : Pl T E q) (hX : RdOK T X) {l : List Tk} (h : All T l) (hl : (hd q l).k = 1 ∨ sg (hd q l) [123] = true) : Oc T E X l.length (selP q l) := by
  unfold selP
  have hA : (∀ x ∈ selA q l, MO T x) ∧ (selA q l).length ≤ 8 ∧ All T (selL q l) ∧ (selL q l).length ≤ l.length := by
    unfold selA selL
    split
    · rename_i hk
      obtain ⟨t, l, rfl⟩ := hd_mem (q := q) (l := l) (by rw [hk]; decide)
      refine ⟨fun x hx => ?_, by simp, h.tail, by simp⟩
      simp at hx
      exact Or.inl ⟨t, h t (by simp), hk, hx⟩
    · exact ⟨fun x hx => by simp at hx, by simp, h, Nat.le_refl _⟩
  have hb : Oc T E (fun _ ns => (∀ x ∈ ns, MO T x) ∧ fewM ns = true) (l.length - 1) (brP q (selA q l) (selL q l)) := by
    by_cases hk : (hd q l).k = 1
    · refine (in_brP hE _ hA.1 hA.2.1 _ hA.2.2.1).mono ?_
      unfold selL
      rw [if_pos hk]
      simp
    · have hs := hl.resolve_left hk
      unfold brP
      have e : selL q l = l := by unfold selL; rw [if_neg hk]
      rw [e, if_pos hs]
      exact (in_lsF hE (in_mtI hE) _ _ _ _ hA.1 h.tail).mono (by simp)
  refine hb.bnd ?_
  intro a r k ha hk hr
  have h0 : 0 < l.length := by
    cases l with
    | nil => rcases hl with hl | hl <;> cases hl
    | cons x l => simp
  refine (in_wnP hE r hr).bnd ?_
  intro b r' k' hb hk' hr'
  refine Oc.good (k := 1) (hX.sel _ _ _ ha.1 ?_ hb) (by dsimp only; omega) hr'
  have := ha.2
  unfold fewM at this
  simpa using this
theorem in_modP (hE : Pl T E q) : In T E (fun _ m => GO T m.on m.ig m.ns) (modP q) := by
  intro l h
  unfold modP
  split
  · exact Oc.good (k := 0) (Or.inl ⟨rfl, rfl, rfl⟩) (by omega) h
  · rename_i hm
    refine ((in_nmP hE _ h.tail).mono (m := l.length) (by simp)).bnd ?_
    intro a r k ha hk hr
    refine Oc.good (k := 0) (Or.inr ⟨?_, ha.2, ha.1⟩) (by dsimp only; omega) hr
    rw [Bool.not_eq_false] at hm
    unfold hasMod at hm
    simp only [Bool.and_eq_true] at hm
    have h2 := hm.1.2
    unfold isModB at h2
    rw [Bool.or_eq_true, beq_iff_eq, beq_iff_eq] at h2
    show ((hd q l).t == wOn) ≠ ((hd q l).t == wIgn)
    rcases h2 with e | e <;> rw [e] <;> decide
theorem in_chF (hE : Pl T E q) (hX : RdOK T X) {lev : Int} (hl1 : 1 ≤ lev) {u : List Tk → Rs Ex} (hu : In T E X u) : ∀ (f n : Nat) (e : Ex) (l : List Tk), X n e → All T l → Oc T E X (n + l.length) (chF q lev u f e l)
  | 0, n, e, l, he, h => Oc.good (k := n) he (by omega) h
  | f + 1, n, e, l, he, h => by
    rw [chF]
    split
    · exact Oc.good (k := n) he (by omega) h
    · rename_i ho
      rw [Bool.not_eq_false] at ho
      unfold isOp at ho
      rw [Bool.and_eq_true, beq_iff_eq, beq_iff_eq] at ho
      obtain ⟨t, l, rfl⟩ := hd_mem (q := q) (l := l) (by rw [ho.1]; decide)
      have hj : Oc T E X (n + (t :: l).length) (joinP q u e (t :: l)) := by
        unfold joinP
        refine (in_modP hE _ h.tail).bnd ?_
        intro a r k ha hk hr
        refine (hu _ hr).bnd ?_
        intro b r' k' hb hk' hr'
        exact Oc.good (k := n + k' + 1) (hX.bin n k' t _ _ _ _ _ (h t (by simp)) ho.1 (by rw [show lv t.t = lev from ho.2]; exact hl1) ha he hb) (by simp at hk ⊢; omega) hr'
      refine hj.bnd ?_
      intro b r k hb hk hr
      exact (in_chF hE hX hl1 hu f k b r hb hr).mono hk
theorem in_chP (hE : Pl T E q) (hX : RdOK T X) {lev : Int} (hl1 : 1 ≤ lev) {u : List Tk → Rs Ex} (hu : In T E X u) : In T E X (chP q lev u) := by
  intro l h
  unfold chP
  refine (hu _ h).bnd ?_
  intro b r k hb hk hr
  exact (in_chF hE hX hl1 hu _ k b r hb hr).mono hk
theorem in_cmp (hE : Pl T E q) (hX : RdOK T X) {u : List Tk → Rs Ex} (hu : In T E X u) : In T E X (cmpP q u) := in_chP hE hX (by decide) (in_chP hE hX (by decide) (in_chP hE hX (by decide) hu))
theorem in_brk (hE : Pl T E q) {c : List Tk → Rs Ex} (hc : In T E X c) : In T E X (brkP q c) := by
  intro l h
  unfold brkP
  split
  · exact Oc.badly (hE.hd h) (Or.inl rfl)
  · refine ((hc _ h.tail).mono (m := l.length) (by simp)).bnd ?_
    intro b r k hb hk hr
    show Oc T E X _ (if sg (hd q r) [41] = true then .inr (b, r.tail) else .inl (bad q r 71))
    split
    · exact Oc.good (k := k) hb (by simp; omega) hr.tail
    · exact Oc.badly (hE.hd hr) (Or.inl rfl)
theorem in_grp (hE : Pl T E q) {l : List Tk} (h : All T l) (hg : (hd q l).k = 1 → isGrpB (hd q l).t = true) : Oc T E (fun _ m => GO T m.on m.ig m.ns) l.length (grpP q l) := by
  unfold grpP
  split
  · exact Oc.good (k := 0) (Or.inl ⟨rfl, rfl, rfl⟩) (by omega) h
  · rename_i hk
    rw [Decidable.not_not] at hk
    refine ((in_nmP hE _ h.tail).mono (m := l.length) (by simp)).bnd ?_
    intro a r k ha hk' hr
    refine Oc.good (k := 0) (Or.inr ⟨?_, ha.2, ha.1⟩) (by dsimp only; omega) hr
    have h2 := hg hk
    unfold isGrpB at h2
    rw [Bool.or_eq_true, beq_iff_eq, beq_iff_eq] at h2
    show ((hd q l).t == wBy) ≠ ((hd q l).t == wWo)
    rcases h2 with e | e <;> rw [e] <;> decide
theorem in_nam (hE : Pl T E q) (hX : RdOK T X) {c : List Tk → Rs Ex} (hc : In T E X c) {l : List Tk} (h : All T l) (hk : (hd q l).k = 1) : Oc T E X l.length (namP q c l) := by
  obtain ⟨t, l, rfl⟩ := hd_mem (q := q) (l := l) (by rw [hk]; decide)
  have hk : t.k = 1 := hk
  unfold namP
  split
  · rename_i ha
    rw [Bool.and_eq_true, Bool.or_eq_true, Bool.and_eq_true] at ha
    unfold aggP
    refine (in_grp hE h.tail ?_).bnd ?_
    · intro hk1
      rcases ha.2 with hs | hs
      · rw [(sg_kt hs).1] at hk1
        cases hk1
      · exact hs.2
    · intro m r k hm hkn hr
      refine (in_brk hE hc _ hr).bnd ?_
      intro b r' k' hb hk' hr'
      exact Oc.good (k := k' + 1) (hX.agg k' t _ _ _ _ (h t (by simp)) ha.1 hm hb) (by simp at hkn ⊢; omega) hr'
  · rename_i ha
    split
    · exact Oc.badly (hE.hd h) (Or.inl rfl)
    · rename_i hm
      split
      · rename_i ho
        have h1 : isAggB t.t = false := by
          cases hA : isAggB t.t with
          | false => rfl
          | true =>
            exfalso
            apply ha
            rw [ho, Bool.true_or, Bool.and_true]
            exact hA
        have h2 : isModB t.t = false := by
          cases hA : isModB t.t with
          | false => rfl
          | true =>
            exfalso
            apply hm
            rw [ho, Bool.and_true]
            exact hA
        unfold callP
        refine (in_brk hE hc _ h.tail).bnd ?_
        intro b r k hb hkn hr
        exact Oc.good (k := k + 1) (hX.call k t _ (h t (by simp)) hk h1 h2 hb) (by simp at hkn ⊢; omega) hr
      · exact in_selP hE hX h (Or.inl hk)
theorem in_prm (hE : Pl T E q) (hX : RdOK T X) {c : List Tk → Rs Ex} (hc : In T E X c) : In T E X (prmP q c) := by
  intro l h
  unfold prmP
  split
  · rename_i hk
    obtain ⟨t, l, rfl⟩ := hd_mem (q := q) (l := l) (by rw [hk]; decide)
    exact Oc.good (k := 1) (hX.num t (h t (by simp)) hk) (by simp; omega) h.tail
  · split
    · rename_i hk
      exact in_nam hE hX hc h hk
    · split
      · exact in_brk hE hc _ h
      · split
        · rename_i hs
          exact in_selP hE hX h (Or.inr hs)
        · exact Oc.badly (hE.hd h) (Or.inl rfl)
theorem in_un (hE : Pl T E q) (hX : RdOK T X) {n c : List Tk → Rs Ex} (hn : In T E X n) (hc : In T E X c) : In T E X (unP q n c) := by
  intro l h
  unfold unP
  split
  · exact in_prm hE hX hc l h
  · rename_i hs
    rw [Bool.not_eq_false] at hs
    obtain ⟨t, l, rfl, _, _⟩ := hd_sg hs
    refine (hn _ h.tail).bnd ?_
    intro b r k hb hkn hr
    exact Oc.good (k := k + 1) (hX.neg k t _ (h t (by simp)) hb) (by simp at hkn ⊢; omega) hr
theorem in_deep (hE : Pl T E q) : In T E X (deep q) := fun _ h => Oc.badly (hE.hd h) (Or.inr (Or.inl rfl))
theorem in_unD (hE : Pl T E q) (hX : RdOK T X) : ∀ d, In T E X (unD q d)
  | 0 => in_un hE hX (in_deep hE) (in_deep hE)
  | d + 1 => in_un hE hX (in_unD hE hX d) (in_cmp hE hX (in_unD hE hX d))
/-- All that is read of whatever signs. -/
theorem rd_all (hE : ∀ t, T t → E t.p) (h0 : E 0) (hX : RdOK T X) {l : List Tk} (h : All T l) : (∀ er, rdP l = .inl er → E er.1 ∧ (er.2 = 71 ∨ er.2 = 72 ∨ er.2 = 32)) ∧ ∀ e, rdP l = .inr e → ∃ k, X k e ∧ k ≤ l.length := by
  have hq : E (endP l) := by
    unfold endP
    cases hg : l.getLast? with
    | none => exact h0
    | some t => exact hE t (h t (List.mem_of_getLast? hg))
  have hE' : Pl T E (endP l) := ⟨hE, hq⟩
  have hc := in_cmp hE' hX (in_unD hE' hX 15) l h
  unfold rdP whP
  cases ha : cmpP (endP l) (unD (endP l) 15) l with
  | inl er =>
    rw [ha] at hc
    refine ⟨fun e h' => ?_, fun e h' => by cases h'⟩
    injection h' with h'
    subst h'
    exact hc.1 er rfl
  | inr x =>
    obtain ⟨x, r⟩ := x
    rw [ha] at hc
    obtain ⟨k, h1, h2, h3⟩ := hc.2 x r rfl
    show (∀ er, (if (hd (endP l) r).k = 0 then .inr x else .inl (bad (endP l) r 71)) = Sum.inl er → _) ∧ ∀ e, (if (hd (endP l) r).k = 0 then .inr x else .inl (bad (endP l) r 71)) = Sum.inr e → _
    split
    · refine ⟨fun e h' => (by cases h'), fun e h' => ?_⟩
      injection h' with h'
      subst h'
      exact ⟨k, h1, by omega⟩
    · refine ⟨fun e h' => ?_, fun e h' => by cases h'⟩
      injection h' with h'
      subst h'
      exact ⟨hE'.hd h3, Or.inl rfl⟩
end
end Go.Proofs.YtkppcgimhnocdabGreatDoor
/- Signs that stand one behind the other with no blank between: plain facts. -/
namespace Go.Proofs.YtkppcgimhnocdabGreatDoor
open Go.RowKit

/-- Nothing that stands ahead of it goes on in it. -/
def stp (c : UInt8) : Bool := [32, 40, 41, 123, 125, 91, 93, 44].contains c
theorem stp_cases {c : UInt8} (h : stp c = true) : c = 32 ∨ c = 40 ∨ c = 41 ∨ c = 123 ∨ c = 125 ∨ c = 91 ∨ c = 93 ∨ c = 44 := by
  unfold stp at h
  simpa using h
theorem stp_dig {c : UInt8} (h : stp c = true) : digB c = false := by
  rcases stp_cases h with rfl | rfl | rfl | rfl | rfl | rfl | rfl | rfl <;> decide
theorem stp_name {c : UInt8} (h : stp c = true) : nameCh c = false := by
  rcases stp_cases h with rfl | rfl | rfl | rfl | rfl | rfl | rfl | rfl <;> decide
theorem stp_sg {c : UInt8} (h : stp c = true) (a : UInt8) : isSg [a, c] = false := by
  cases hs : isSg [a, c] with
  | false => rfl
  | true =>
    have := sign_cases hs
    rcases stp_cases h with rfl | rfl | rfl | rfl | rfl | rfl | rfl | rfl <;> simp at this
theorem stp_ne {c : UInt8} (h : stp c = true) : c ≠ 116 ∧ c ≠ 46 := by
  rcases stp_cases h with rfl | rfl | rfl | rfl | rfl | rfl | rfl | rfl <;> decide
theorem tok_stop {s : Str} {x : Tk} {k : Nat} {c : UInt8} (hc : stp c = true) (b : Str) (hs : s ≠ []) (h : tok s = some (x, k)) : tok (s ++ c :: b) = some (x, k) := by
  rw [← h]
  have hcd := stp_dig hc
  have hcn := stp_name hc
  obtain ⟨c1, c2⟩ := stp_ne hc
  have hg : dgN (s ++ c :: b) = dgN s := by unfold dgN; rw [run_more s b hcd]
  have hi : idN (s ++ c :: b) = idN s := by unfold idN; rw [run_more s b hcn]
  unfold tok
  rw [headD_app _ hs]
  unfold tok at h
  split
  · rename_i hd
    unfold tkAmt
    have hgl := dgN_le s
    rw [hg, List.drop_append_of_le_length hgl, List.take_append_of_le_length hgl]
    have hh : ((s.drop (dgN s) ++ c :: b).head? = some 116) = ((s.drop (dgN s)).head? = some 116) := by
      cases s.drop (dgN s) with
      | nil => simp [c1]
      | cons c r => simp
    have hdn : decN (s.drop (dgN s) ++ c :: b) = decN (s.drop (dgN s)) := by
      cases s.drop (dgN s) with
      | nil =>
        show decN (c :: b) = decN []
        unfold decN
        rw [if_neg (by simp [c2]), if_neg (by simp)]
      | cons a r =>
        have : dgN (r ++ c :: b) = dgN r := by unfold dgN; rw [run_more r b hcd]
        have d1 : ∀ q, decN (a :: q) = if a = 46 then (if dgN q = 0 then 0 else 1 + dgN q) else 0 := fun q => by
          unfold decN
          by_cases hc : a = 46
          · rw [if_pos hc, if_pos (by rw [hc]; rfl)]; rfl
          · rw [if_neg hc, if_neg (by simp [hc])]
        rw [List.cons_append, d1, d1, this]
    have hdl := decN_le (s.drop (dgN s))
    simp at hdl
    rw [hdn, List.take_append_of_le_length (by omega)]
    simp only [hh]
  · split
    · rw [hi, List.take_append_of_le_length (idN_le s)]
    · split
      · rename_i h1 h2 h3
        rw [if_neg h1, if_neg h2, if_pos h3] at h
        have e : (s ++ c :: b).tail = s.tail ++ c :: b := by
          cases s with
          | nil => exact absurd rfl hs
          | cons c r => rfl
        unfold tkTx at h ⊢
        rw [e]
        cases hq : qd s.tail with
        | none => rw [hq] at h; cases h
        | some y => rw [qd_more _ s.tail _ (Nat.le_refl _) y hq]
      · unfold tkSg
        have e1 : (s ++ c :: b).take 1 = s.take 1 := by
          cases s with
          | nil => exact absurd rfl hs
          | cons c r => rfl
        rw [e1]
        by_cases h2 : 2 ≤ s.length
        · rw [List.take_append_of_le_length h2]
          have h2' : 2 ≤ (s ++ c :: b).length := by simp; omega
          simp only [h2, h2']
        · obtain ⟨a, rfl⟩ : ∃ a, s = [a] := by
            cases s with
            | nil => exact absurd rfl hs
            | cons c r =>
              cases r with
              | nil => exact ⟨c, rfl⟩
              | cons d r => simp at h2
          rw [show ([a] ++ c :: b).take 2 = [a, c] from rfl, stp_sg hc]
          have n1 : ¬ (2 ≤ ([a] ++ c :: b).length ∧ false = true) := fun e => by cases e.2
          have n2 : ¬ (2 ≤ [a].length ∧ isSg ([a].take 2) = true) := fun e => h2 e.1
          rw [if_neg n1, if_neg n2]
theorem scanG_stop {c : UInt8} (hc : stp c = true) (b : Str) (n : Nat) : ∀ (m : Nat) (r : Str) (l : List Tk), r.length ≤ m → r.length ≤ n → lead r = r → scanG n r = .inr l → scanG (n + 1 + b.length) (lead (r ++ c :: b)) = pre l (scanG (n + 1 + b.length) (lead (c :: b)))
  | m, [], l, _, _, _, hg => by
    rw [scanG_nil] at hg
    injection hg with hg
    subst hg
    rw [pre_nil, List.nil_append]
  | 0, c :: r, l, h, _, _, _ => by simp at h
  | m + 1, d :: r, l, h, hn, hl, hg => by
    have hr : d :: r ≠ [] := by simp
    rw [lead_app2 hl]
    generalize d :: r = r at *
    have hr2 : r ++ c :: b ≠ [] := by simp
    cases ht : tok r with
    | none => rw [scanG_none hr ht] at hg; cases hg
    | some y =>
      obtain ⟨x, k⟩ := y
      obtain ⟨k1, k2, _, _⟩ := tok_facts hr ht
      have hlt := lead_drop_lt hr k1
      rw [scanG_some hr ht k1] at hg
      cases hq : scanG n (lead (r.drop k)) with
      | inl p => rw [hq] at hg; cases hg
      | inr l' =>
        rw [hq] at hg
        have hg' : x.put ((n - r.length : Nat) : Int) :: l' = l := by injection hg
        subst hg'
        have ih := scanG_stop hc b n m (lead (r.drop k)) l' (by omega) (by omega) (lead_lead _) hq
        rw [scanG_some hr2 (tok_stop hc b hr ht) k1, List.drop_append_of_le_length k2, lead_lead_app, ih]
        have e : n + 1 + b.length - (r ++ c :: b).length = n - r.length := by simp; omega
        rw [e]
        cases scanG (n + 1 + b.length) (lead (c :: b)) <;> rfl
theorem sc_stop {c : UInt8} (hc : stp c = true) {a b : Str} {l : List Tk} (h : sc a = .inr l) : sc (a ++ c :: b) = pre l (shR a.length (sc (c :: b))) := by
  unfold sc at *
  have e : (a ++ c :: b).length = a.length + 1 + b.length := by simp; omega
  have e2 : a.length + 1 + b.length = a.length + (c :: b).length := by simp; omega
  rw [e, lead_lead_app, scanG_stop hc b a.length (lead a).length (lead a) l (Nat.le_refl _) (lead_le a) (lead_lead a) h, e2, scanG_shift a.length (c :: b).length (lead (c :: b)).length (lead (c :: b)) (Nat.le_refl _) (lead_le _)]
/-- Brackets round a text are signs round its signs. -/
theorem sc_open (s : Str) : sc (40 :: s) = push ⟨5, 0, [40], false, 0, 0⟩ (shR 1 (sc s)) := by
  have ht : tok (40 :: s) = some (tSign [40], 1) := by
    unfold tok
    rw [List.headD_cons, if_neg (by decide), if_neg (by decide), if_neg (by decide)]
    unfold tkSg
    rw [if_neg, if_pos]
    · rfl
    · rfl
    · rintro ⟨_, h⟩
      have := sign_cases h
      cases s with
      | nil => simp at *
      | cons c s => simp at this
  have hl : lead (40 :: s) = 40 :: s := lead_cons (by decide)
  unfold sc
  rw [hl, scanG_some (by simp) ht (Nat.le_refl _)]
  have e : (40 :: s).length = 1 + s.length := by simp; omega
  rw [List.drop_succ_cons, List.drop_zero, e, scanG_shift 1 s.length (lead s).length (lead s) (Nat.le_refl _) (lead_le _), ← e, Nat.sub_self]
  rfl
theorem sc_round {s : Str} {l : List Tk} (h : sc s = .inr l) : ∃ o c, sc (40 :: (s ++ [41])) = .inr (o :: (l.map (sh 1) ++ [c])) ∧ o.k = 5 ∧ o.t = [40] ∧ c.k = 5 ∧ c.t = [41] := by
  have h1 : sc (40 :: s) = .inr (⟨5, 0, [40], false, 0, 0⟩ :: l.map (sh 1)) := by rw [sc_open, h]; rfl
  have h2 := sc_stop (c := 41) (by decide) (b := []) h1
  have h3 : sc [41] = .inr [⟨5, 0, [41], false, 0, 0⟩] := by kernel_rfl
  rw [h3] at h2
  exact ⟨_, sh (40 :: s).length ⟨5, 0, [41], false, 0, 0⟩, h2, rfl, rfl, rfl, rfl⟩
end Go.Proofs.YtkppcgimhnocdabGreatDoor
/- Brackets round an expression change nothing but places: plain facts. -/
namespace Go.Proofs.YtkppcgimhnocdabGreatDoor
open Go.RowKit

/-! ### Without places -/
def strG (e : Ex) (ks : List Ex) : Ex := ⟨e.k, 0, e.o, e.v, e.s, e.m, e.r, e.b1, e.b2, e.b3, e.b4, e.ns, ks⟩
def str (e : Ex) : Ex := foldE strG e
def strL : List Ex → List Ex
  | [] => []
  | x :: l => str x :: strL l
theorem strL_map : ∀ l, strL l = l.map str
  | [] => rfl
  | x :: l => by rw [strL, strL_map l]; rfl
theorem str_mk (k p : Int) (o : Bool) (v : Int) (s : Str) (m : List Mt) (r : Int) (b1 b2 b3 b4 : Bool) (ns : List Str) (ks : List Ex) : str ⟨k, p, o, v, s, m, r, b1, b2, b3, b4, ns, ks⟩ = ⟨k, 0, o, v, s, m, r, b1, b2, b3, b4, ns, strL ks⟩ := by
  show foldE strG _ = _
  rw [foldE_eq, strL_map]
  rfl
def Eqx (a b : Ex) : Prop := str a = str b
theorem eqx_num (p p' : Int) (o : Bool) (v : Int) : Eqx (eNum p o v) (eNum p' o v) := by
  unfold Eqx eNum
  rw [str_mk, str_mk]
theorem eqx_sel (p p' : Int) (m : List Mt) (r : Int) : Eqx (eSel p m r) (eSel p' m r) := by
  unfold Eqx eSel
  rw [str_mk, str_mk]
theorem eqx_call (p p' : Int) (s : Str) {a b : Ex} (h : Eqx a b) : Eqx (eCall p s a) (eCall p' s b) := by
  unfold Eqx at *
  unfold eCall
  simp only [str_mk, strL, h]
theorem eqx_agg (p p' : Int) (s : Str) (b1 b2 : Bool) (ns : List Str) {a b : Ex} (h : Eqx a b) : Eqx (eAgg p s b1 b2 ns a) (eAgg p' s b1 b2 ns b) := by
  unfold Eqx at *
  unfold eAgg
  simp only [str_mk, strL, h]
theorem eqx_neg (p p' : Int) {a b : Ex} (h : Eqx a b) : Eqx (eNeg p a) (eNeg p' b) := by
  unfold Eqx at *
  unfold eNeg
  simp only [str_mk, strL, h]
theorem eqx_bin (p p' : Int) (s : Str) (b3 b4 : Bool) (ns : List Str) {a b c d : Ex} (h : Eqx a b) (h' : Eqx c d) : Eqx (eBin p s b3 b4 ns a c) (eBin p' s b3 b4 ns b d) := by
  unfold Eqx at *
  unfold eBin
  simp only [str_mk, strL, h, h']

/-! ### Two rows of signs that are read alike -/
/-- The same signs, at other places; then the one ends, and in the other a bracket is closed. -/
def Rl (Z l1 l2 : List Tk) : Prop := ∃ T1 T2 R1 R2, l1 = T1 ++ R1 ∧ l2 = T2 ++ R2 ∧ T1.map (Tk.put · 0) = T2.map (Tk.put · 0) ∧ (∀ x ∈ T1, x.k ≠ 0) ∧ (R1 = [] ∨ ∃ E, R1 = [E] ∧ E.k = 0) ∧ R2 = Z ∧ ∃ c R, R2 = c :: R ∧ c.k = 5 ∧ c.t = [41]
variable {Z : List Tk}
theorem put_eq {x y : Tk} (h : x.put 0 = y.put 0) : y = x.put y.p := by
  obtain ⟨a, b, c, d, e, f⟩ := x
  obtain ⟨a', b', c', d', e', f'⟩ := y
  unfold Tk.put at *
  simp at h ⊢
  obtain ⟨h1, h2, h3, h4, h5⟩ := h
  exact ⟨h1.symm, h2.symm, h3.symm, h4.symm, h5.symm⟩
theorem Rl.cases {l1 l2 : List Tk} (h : Rl Z l1 l2) (q : Int) : ((hd q l1).k = 0 ∧ (∃ E, l1 = [] ∨ l1 = [E]) ∧ ∃ c R, l2 = c :: R ∧ c.k = 5 ∧ c.t = [41]) ∨ ∃ x p l1' l2', l1 = x :: l1' ∧ l2 = x.put p :: l2' ∧ x.k ≠ 0 ∧ Rl Z l1' l2' := by
  obtain ⟨T1, T2, R1, R2, rfl, rfl, hT, h0, hR1, hZ, c, R, rfl, h5, ht⟩ := h
  cases T1 with
  | nil =>
    cases T2 with
    | cons y T2 => simp at hT
    | nil =>
      refine Or.inl ⟨?_, ?_, c, R, rfl, h5, ht⟩
      · rcases hR1 with rfl | ⟨E, rfl, hE⟩
        · rfl
        · exact hE
      · rcases hR1 with rfl | ⟨E, rfl, _⟩
        · exact ⟨c, Or.inl rfl⟩
        · exact ⟨E, Or.inr rfl⟩
  | cons x T1 =>
    cases T2 with
    | nil => simp at hT
    | cons y T2 =>
      rw [List.map_cons, List.map_cons] at hT
      injection hT with h1 h2
      refine Or.inr ⟨x, y.p, T1 ++ R1, T2 ++ c :: R, rfl, by rw [← put_eq h1]; rfl, h0 x (by simp), T1, T2, R1, c :: R, rfl, rfl, h2, fun z hz => h0 z (by simp [hz]), hR1, hZ, c, R, rfl, h5, ht⟩
theorem Rl.rest {l1 l2 : List Tk} (h : Rl Z l1 l2) {q : Int} (h0 : (hd q l1).k = 0) : l2 = Z := by
  obtain ⟨T1, T2, R1, R2, rfl, rfl, hT, hx, hR1, hZ, c, R, rfl, h5, ht⟩ := h
  cases T1 with
  | nil =>
    cases T2 with
    | cons y T2 => simp at hT
    | nil => exact hZ
  | cons x T1 => exact absurd h0 (hx x (by simp))
theorem Rl.len {l1 l2 : List Tk} (h : Rl Z l1 l2) : l1.length ≤ l2.length := by
  obtain ⟨T1, T2, R1, R2, rfl, rfl, hT, h0, hR1, hZ, c, R, rfl, h5, ht⟩ := h
  have := congrArg List.length hT
  simp at this
  rcases hR1 with rfl | ⟨E, rfl, _⟩ <;> simp <;> omega
theorem sg0 {t : Tk} {s : Str} (h : t.k = 0) : sg t s = false := by unfold sg; rw [h]; rfl
theorem sgc {t : Tk} {s : Str} (ht : t.t = [41]) (hs : ([41] : Str) ≠ s) : sg t s = false := by
  unfold sg
  rw [ht, beq_eq_false_iff_ne.2 hs, Bool.and_false]
theorem Rl.sg {l1 l2 : List Tk} (h : Rl Z l1 l2) (q1 q2 : Int) {s : Str} (hs : ([41] : Str) ≠ s) : Go.Proofs.YtkppcgimhnocdabGreatDoor.sg (hd q1 l1) s = Go.Proofs.YtkppcgimhnocdabGreatDoor.sg (hd q2 l2) s := by
  rcases h.cases q1 with ⟨h0, _, c, R, rfl, h5, ht⟩ | ⟨x, p, l1', l2', rfl, rfl, hx, h'⟩
  · rw [sg0 h0]; exact (sgc ht hs).symm
  · rfl
def Ot {α : Type} (Z : List Tk) (n : Nat) (R : α → α → Prop) (a b : Rs α) : Prop := ∀ e1 r1, a = .inr (e1, r1) → (r1.length ≤ n ∧ ∃ e2 r2, b = .inr (e2, r2) ∧ R e1 e2 ∧ Rl Z r1 r2) ∨ ∃ p, b = .inl (p, 72)
theorem Ot.bad {α : Type} {n : Nat} {R : α → α → Prop} {er : Er} {b : Rs α} : Ot Z n R (.inl er) b := fun _ _ h => by cases h
theorem Ot.good {α : Type} {n : Nat} {R : α → α → Prop} {x y : α} {r s : List Tk} (h : R x y) (hr : Rl Z r s) (hn : r.length ≤ n) : Ot Z n R (.inr (x, r)) (.inr (y, s)) := fun e1 r1 h' => by
  injection h' with h'
  injection h' with h1 h2
  subst h1 h2
  exact Or.inl ⟨hn, y, s, rfl, h, hr⟩
theorem Ot.deep {α : Type} {n : Nat} {R : α → α → Prop} {a : Rs α} {p : Int} : Ot Z n R a (.inl (p, 72)) := fun _ _ _ => Or.inr ⟨p, rfl⟩
theorem Ot.mono {α : Type} {n m : Nat} {R : α → α → Prop} {a b : Rs α} (h : Ot Z n R a b) (hn : n ≤ m) : Ot Z m R a b := fun e1 r1 h' => by
  rcases h e1 r1 h' with ⟨h1, h2⟩ | h
  · exact Or.inl ⟨by omega, h2⟩
  · exact Or.inr h
theorem Ot.bnd {α β : Type} {n : Nat} {R : α → α → Prop} {R' : β → β → Prop} {a b : Rs α} {k1 k2 : α × List Tk → Rs β} (h : Ot Z n R a b) (hk : ∀ x y r s, r.length ≤ n → R x y → Rl Z r s → Ot Z n R' (k1 (x, r)) (k2 (y, s))) : Ot Z n R' (Go.Proofs.YtkppcgimhnocdabGreatDoor.bnd a k1) (Go.Proofs.YtkppcgimhnocdabGreatDoor.bnd b k2) := by
  intro e1 r1 h'
  cases ha : a with
  | inl er => rw [ha] at h'; cases h'
  | inr x =>
    obtain ⟨x, r⟩ := x
    rw [ha] at h'
    rcases h x r ha with ⟨hn, y, s, rfl, hR, hr⟩ | ⟨p, rfl⟩
    · exact hk x y r s hn hR hr e1 r1 h'
    · exact Or.inr ⟨p, rfl⟩
def Sim {α : Type} (Z : List Tk) (R : α → α → Prop) (f g : List Tk → Rs α) : Prop := ∀ l1 l2, Rl Z l1 l2 → Ot Z l1.length R (f l1) (g l2)

/-! ### The reader's parts, one by one -/
theorem nmI0 {q : Int} {l : List Tk} (h : (hd q l).k = 0) : nmI q l = .inl (Go.Proofs.YtkppcgimhnocdabGreatDoor.bad q l 71) := by unfold nmI; rw [if_neg (by rw [h]; decide)]
theorem sim_nmI (q1 q2 : Int) : Sim Z Eq (nmI q1) (nmI q2) := by
  intro l1 l2 h
  rcases h.cases q1 with ⟨h0, _, c, R, rfl, h5, ht⟩ | ⟨x, p, l1', l2', rfl, rfl, hx, h'⟩
  · rw [nmI0 h0]; exact Ot.bad
  · show Ot Z _ _ (if x.k = 1 then .inr (x.t, l1') else .inl _) (if x.k = 1 then .inr (x.t, l2') else .inl _)
    split
    · exact Ot.good rfl h' (by simp)
    · exact Ot.bad
theorem mtI0 {q : Int} {l : List Tk} (h : (hd q l).k = 0) : mtI q l = .inl (Go.Proofs.YtkppcgimhnocdabGreatDoor.bad q l 71) := by unfold mtI; rw [if_pos (by rw [h]; decide)]
theorem sim_mtI (q1 q2 : Int) : Sim Z Eq (mtI q1) (mtI q2) := by
  intro l1 l2 h
  rcases h.cases q1 with ⟨h0, _, c, R, rfl, h5, ht⟩ | ⟨x, p, l1', l2', rfl, rfl, hx, h'⟩
  · rw [mtI0 h0]; exact Ot.bad
  · by_cases h1 : x.k ≠ 1
    · unfold mtI
      rw [if_pos (show (hd q1 (x :: l1')).k ≠ 1 from h1)]; exact Ot.bad
    · rcases h'.cases q1 with ⟨h0, _, c, R, rfl, h5, ht⟩ | ⟨y, p', m1, m2, rfl, rfl, hy, h''⟩
      · unfold mtI
        rw [if_neg (show ¬ (hd q1 (x :: l1')).k ≠ 1 from h1), List.tail_cons, if_pos (Or.inl (by rw [h0]; decide))]; exact Ot.bad
      · by_cases h2 : y.k ≠ 5 ∨ mkd y.t = 0
        · unfold mtI
          rw [if_neg (show ¬ (hd q1 (x :: y :: m1)).k ≠ 1 from h1), List.tail_cons, if_pos (show (hd q1 (y :: m1)).k ≠ 5 ∨ mkd (hd q1 (y :: m1)).t = 0 from h2)]; exact Ot.bad
        · rcases h''.cases q1 with ⟨h0, _, c, R, rfl, h5, ht⟩ | ⟨z, p'', n1, n2, rfl, rfl, hz, h'''⟩
          · unfold mtI
            rw [if_neg (show ¬ (hd q1 (x :: y :: m1)).k ≠ 1 from h1), List.tail_cons, if_neg (show ¬ ((hd q1 (y :: m1)).k ≠ 5 ∨ mkd (hd q1 (y :: m1)).t = 0) from h2), List.tail_cons, if_pos (by rw [h0]; decide)]; exact Ot.bad
          · show Ot Z _ _ (if x.k ≠ 1 then .inl _ else if y.k ≠ 5 ∨ mkd y.t = 0 then .inl _ else if z.k ≠ 4 then .inl _ else .inr ((⟨x.t, mkd y.t, z.t⟩ : Mt), n1)) (if x.k ≠ 1 then .inl _ else if y.k ≠ 5 ∨ mkd y.t = 0 then .inl _ else if z.k ≠ 4 then .inl _ else .inr ((⟨x.t, mkd y.t, z.t⟩ : Mt), n2))
            rw [if_neg h1, if_neg h2, if_neg h1, if_neg h2]
            split
            · exact Ot.bad
            · exact Ot.good rfl h''' (by simp; omega)
theorem sim_lsF {α : Type} {q1 q2 : Int} {cl : Str} {i1 i2 : List Tk → Rs α} {few : List α → Bool} (hi : Sim Z Eq i1 i2) (h0 : ∀ l, (hd q1 l).k = 0 → ∃ er, i1 l = .inl er) : ∀ (f1 f2 : Nat) (first : Bool) (acc : List α) (l1 l2 : List Tk), f1 ≤ f2 → Rl Z l1 l2 → Ot Z l1.length Eq (lsF q1 cl i1 few f1 first acc l1) (lsF q2 cl i2 few f2 first acc l2)
  | 0, f2, first, acc, l1, l2, _, _ => Ot.bad
  | f1 + 1, 0, first, acc, l1, l2, hf, _ => by omega
  | f1 + 1, f2 + 1, first, acc, l1, l2, hf, h => by
    rw [lsF, lsF]
    rcases h.cases q1 with ⟨hk, _, c, R, rfl, h5, ht⟩ | ⟨x, p, l1', l2', rfl, rfl, hx, h'⟩
    · rw [sg0 hk, sg0 hk, if_neg (by simp)]
      cases first with
      | false => rw [if_pos ⟨rfl, rfl⟩]; exact Ot.bad
      | true =>
        obtain ⟨er, he⟩ := h0 l1 hk
        rw [if_neg (by simp), if_pos rfl, he]
        exact Ot.bad
    · show Ot Z _ _ (if sg x cl = true then (if few acc = true then .inr (acc, l1') else .inl _) else if first = false ∧ sg x [44] = false then .inl _ else bnd (i1 (if first = true then x :: l1' else l1')) _) (if sg x cl = true then (if few acc = true then .inr (acc, l2') else .inl _) else if first = false ∧ sg x [44] = false then .inl _ else bnd (i2 (if first = true then x.put p :: l2' else l2')) _)
      split
      · split
        · exact Ot.good rfl h' (by simp)
        · exact Ot.bad
      · split
        · exact Ot.bad
        · have hr : Rl Z (if first = true then x :: l1' else l1') (if first = true then x.put p :: l2' else l2') := by
            cases first
            · exact h'
            · exact h
          have hl : (if first = true then x :: l1' else l1').length ≤ (x :: l1').length := by
            cases first <;> simp
          refine ((hi _ _ hr).mono hl).bnd ?_
          rintro a _ r s hn rfl hrs
          exact (sim_lsF hi h0 f1 f2 false (acc ++ [a]) r s (by omega) hrs).mono hn
theorem sim_nmP (q1 q2 : Int) : Sim Z Eq (nmP q1) (nmP q2) := by
  intro l1 l2 h
  unfold nmP
  rw [← h.sg q1 q2 (by decide)]
  split
  · rename_i hs
    rcases h.cases q1 with ⟨hk, _, c, R, rfl, h5, ht⟩ | ⟨x, p, l1', l2', rfl, rfl, hx, h'⟩
    · rw [sg0 hk] at hs; cases hs
    · have := h.len
      exact (sim_lsF (sim_nmI q1 q2) (fun l hl => ⟨_, nmI0 hl⟩) _ _ _ _ _ _ (by omega) h').mono (by simp)
  · exact Ot.bad
theorem sim_brP (q1 q2 : Int) (a : List Mt) : Sim Z Eq (brP q1 a) (brP q2 a) := by
  intro l1 l2 h
  unfold brP
  rw [← h.sg q1 q2 (by decide)]
  split
  · rename_i hs
    rcases h.cases q1 with ⟨hk, _, c, R, rfl, h5, ht⟩ | ⟨x, p, l1', l2', rfl, rfl, hx, h'⟩
    · rw [sg0 hk] at hs; cases hs
    · have := h.len
      exact (sim_lsF (sim_mtI q1 q2) (fun l hl => ⟨_, mtI0 hl⟩) _ _ _ _ _ _ (by omega) h').mono (by simp)
  · exact Ot.good rfl h (Nat.le_refl _)
theorem sim_wnP (q1 q2 : Int) : Sim Z Eq (wnP q1) (wnP q2) := by
  intro l1 l2 h
  unfold wnP
  rw [← h.sg q1 q2 (by decide)]
  split
  · exact Ot.good rfl h (Nat.le_refl _)
  · rename_i hs
    rcases h.cases q1 with ⟨hk, _, c, R, rfl, h5, ht⟩ | ⟨x, p, l1', l2', rfl, rfl, hx, h'⟩
    · exact absurd (sg0 hk) hs
    · rcases h'.cases q1 with ⟨hk, _, c, R, rfl, h5, ht⟩ | ⟨y, p', m1, m2, rfl, rfl, hy, h''⟩
      · rw [List.tail_cons, if_pos (by rw [hk]; decide)]; exact Ot.bad
      · show Ot Z _ _ (if y.k ≠ 3 then .inl _ else if sg (hd q1 m1) [93] = false then .inl _ else .inr (y.d, m1.tail)) (if y.k ≠ 3 then .inl _ else if sg (hd q2 m2) [93] = false then .inl _ else .inr (y.d, m2.tail))
        split
        · exact Ot.bad
        · rw [← h''.sg q1 q2 (by decide)]
          split
          · exact Ot.bad
          · rename_i hs2
            rcases h''.cases q1 with ⟨hk, _, c, R, rfl, h5, ht⟩ | ⟨z, p'', n1, n2, rfl, rfl, hz, h'''⟩
            · exact absurd (sg0 hk) hs2
            · exact Ot.good rfl h''' (by simp; omega)
theorem sim_selP (q1 q2 : Int) : Sim Z Eqx (selP q1) (selP q2) := by
  intro l1 l2 h
  unfold selP
  have hA : selA q1 l1 = selA q2 l2 ∧ Rl Z (selL q1 l1) (selL q2 l2) ∧ (selL q1 l1).length ≤ l1.length := by
    unfold selA selL
    rcases h.cases q1 with ⟨hk, _, c, R, rfl, h5, ht⟩ | ⟨x, p, l1', l2', rfl, rfl, hx, h'⟩
    · have e : (hd q2 (c :: R)).k = 5 := h5
      rw [if_neg (by rw [hk]; decide), if_neg (by rw [e]; decide), if_neg (by rw [hk]; decide), if_neg (by rw [e]; decide)]
      exact ⟨rfl, h, Nat.le_refl _⟩
    · show (if x.k = 1 then [(⟨nmL, 1, x.t⟩ : Mt)] else []) = (if x.k = 1 then [(⟨nmL, 1, x.t⟩ : Mt)] else []) ∧ Rl Z (if x.k = 1 then l1' else x :: l1') (if x.k = 1 then l2' else x.put p :: l2') ∧ _
      refine ⟨rfl, ?_, ?_⟩
      · split
        · exact h'
        · exact h
      · show (if x.k = 1 then l1' else x :: l1').length ≤ _
        split <;> simp
  obtain ⟨hA1, hA2, hA3⟩ := hA
  rw [← hA1]
  refine ((sim_brP q1 q2 _ _ _ hA2).mono hA3).bnd ?_
  rintro a _ r s hn rfl hr
  refine ((sim_wnP q1 q2 _ _ hr).mono hn).bnd ?_
  rintro b _ r' s' hn' rfl hr'
  exact Ot.good (eqx_sel _ _ _ _) hr' hn'
theorem Rl.mod {l1 l2 : List Tk} (h : Rl Z l1 l2) (q1 q2 : Int) : hasMod q1 l1 = hasMod q2 l2 := by
  unfold hasMod
  rcases h.cases q1 with ⟨hk, _, c, R, rfl, h5, ht⟩ | ⟨x, p, l1', l2', rfl, rfl, hx, h'⟩
  · have e : (hd q2 (c :: R)).k = 5 := h5
    rw [hk, e]
    rfl
  · rw [List.tail_cons, List.tail_cons, h'.sg q1 q2 (by decide)]
    rfl
theorem sim_modP (q1 q2 : Int) : Sim Z Eq (modP q1) (modP q2) := by
  intro l1 l2 h
  unfold modP
  rw [← h.mod q1 q2]
  split
  · exact Ot.good rfl h (Nat.le_refl _)
  · rename_i hm
    rcases h.cases q1 with ⟨hk, _, c, R, rfl, h5, ht⟩ | ⟨x, p, l1', l2', rfl, rfl, hx, h'⟩
    · exfalso
      apply hm
      unfold hasMod
      rw [hk]
      rfl
    · refine ((sim_nmP q1 q2 _ _ h').mono (by simp)).bnd ?_
      rintro b _ r' s' hn' rfl hr'
      exact Ot.good rfl hr' hn'
theorem Rl.op {l1 l2 : List Tk} (h : Rl Z l1 l2) (q1 q2 : Int) {lev : Int} (hl : 1 ≤ lev) : isOp q1 lev l1 = isOp q2 lev l2 := by
  unfold isOp
  rcases h.cases q1 with ⟨hk, _, c, R, rfl, h5, ht⟩ | ⟨x, p, l1', l2', rfl, rfl, hx, h'⟩
  · have e : (hd q2 (c :: R)).t = [41] := ht
    rw [hk, e]
    have : (lv [41] == lev) = false := by rw [show lv [41] = 0 by decide]; rw [beq_eq_false_iff_ne]; omega
    rw [this, Bool.and_false]
    rfl
  · rfl
theorem sim_chF {q1 q2 lev : Int} (hlev : 1 ≤ lev) {u1 u2 : List Tk → Rs Ex} (hu : Sim Z Eqx u1 u2) : ∀ (f1 f2 : Nat) (e1 e2 : Ex) (l1 l2 : List Tk), l1.length < f1 → f1 ≤ f2 → Eqx e1 e2 → Rl Z l1 l2 → Ot Z l1.length Eqx (chF q1 lev u1 f1 e1 l1) (chF q2 lev u2 f2 e2 l2)
  | 0, f2, e1, e2, l1, l2, hf, _, _, _ => by omega
  | f1 + 1, 0, e1, e2, l1, l2, _, hf, _, _ => by omega
  | f1 + 1, f2 + 1, e1, e2, l1, l2, hl, hf, he, h => by
    rw [chF, chF, ← h.op q1 q2 hlev]
    split
    · exact Ot.good he h (Nat.le_refl _)
    · rename_i ho
      rcases h.cases q1 with ⟨hk, _, c, R, rfl, h5, ht⟩ | ⟨x, p, l1', l2', rfl, rfl, hx, h'⟩
      · exfalso
        apply ho
        unfold isOp
        rw [hk]
        rfl
      · have hj : Ot Z l1'.length Eqx (joinP q1 u1 e1 (x :: l1')) (joinP q2 u2 e2 (x.put p :: l2')) := by
          unfold joinP
          refine (sim_modP q1 q2 _ _ h').bnd ?_
          rintro b _ r s hn rfl hr
          refine ((hu _ _ hr).mono hn).bnd ?_
          intro y y' r' s' hn' hy hr'
          exact Ot.good (eqx_bin _ _ _ _ _ _ he hy) hr' hn'
        simp at hl
        refine Ot.mono (n := l1'.length) (hj.bnd ?_) (by simp)
        intro y y' r s hn hy hr
        exact (sim_chF hlev hu f1 f2 y y' r s (by omega) (by omega) hy hr).mono hn
theorem sim_chP {q1 q2 lev : Int} (hlev : 1 ≤ lev) {u1 u2 : List Tk → Rs Ex} (hu : Sim Z Eqx u1 u2) : Sim Z Eqx (chP q1 lev u1) (chP q2 lev u2) := by
  intro l1 l2 h
  unfold chP
  refine (hu _ _ h).bnd ?_
  intro x y r s hn hx hr
  have := hr.len
  exact (sim_chF hlev hu _ _ x y r s (by dsimp only; omega) (by dsimp only; omega) hx hr).mono hn
theorem sim_cmp {q1 q2 : Int} {u1 u2 : List Tk → Rs Ex} (hu : Sim Z Eqx u1 u2) : Sim Z Eqx (cmpP q1 u1) (cmpP q2 u2) :=
  sim_chP (by decide) (sim_chP (by decide) (sim_chP (by decide) hu))
theorem sim_brk {q1 q2 : Int} {c1 c2 : List Tk → Rs Ex} (hc : Sim Z Eqx c1 c2) : Sim Z Eqx (brkP q1 c1) (brkP q2 c2) := by
  intro l1 l2 h
  unfold brkP
  rw [← h.sg q1 q2 (by decide)]
  split
  · exact Ot.bad
  · rename_i hs
    rcases h.cases q1 with ⟨hk, _, c, R, rfl, h5, ht⟩ | ⟨x, p, l1', l2', rfl, rfl, hx, h'⟩
    · exact absurd (sg0 hk) hs
    · refine ((hc _ _ h').mono (m := (x :: l1').length) (by simp)).bnd ?_
      intro a b r s hn ha hr
      rcases hr.cases q1 with ⟨hk, _, c, R, rfl, h5, ht⟩ | ⟨y, p', r', s', rfl, rfl, hy, hr'⟩
      · show Ot Z _ _ (if sg (hd q1 r) [41] = true then _ else _) _
        rw [sg0 hk]
        exact Ot.bad
      · show Ot Z _ _ (if sg y [41] = true then .inr (a, r') else .inl _) (if sg y [41] = true then .inr (b, s') else .inl _)
        split
        · exact Ot.good ha hr' (by simp at hn ⊢; omega)
        · exact Ot.bad
theorem sim_call {q1 q2 : Int} {c1 c2 : List Tk → Rs Ex} (hc : Sim Z Eqx c1 c2) (x : Tk) (p : Int) {l1 l2 : List Tk} (h : Rl Z l1 l2) : Ot Z (x :: l1).length Eqx (callP q1 c1 (x :: l1)) (callP q2 c2 (x.put p :: l2)) := by
  unfold callP
  refine ((sim_brk hc _ _ h).mono (m := (x :: l1).length) (by simp)).bnd ?_
  intro a b r s hn ha hr
  exact Ot.good (eqx_call _ _ _ ha) hr hn
theorem sim_grp (q1 q2 : Int) : Sim Z Eq (grpP q1) (grpP q2) := by
  intro l1 l2 h
  unfold grpP
  rcases h.cases q1 with ⟨hk, _, c, R, rfl, h5, ht⟩ | ⟨x, p, l1', l2', rfl, rfl, hx, h'⟩
  · have e : (hd q2 (c :: R)).k = 5 := h5
    rw [if_pos (by rw [hk]; decide), if_pos (by rw [e]; decide)]
    exact Ot.good rfl h (Nat.le_refl _)
  · show Ot Z _ _ (if x.k ≠ 1 then .inr (_, x :: l1') else bnd (nmP q1 l1') _) (if x.k ≠ 1 then .inr (_, x.put p :: l2') else bnd (nmP q2 l2') _)
    split
    · exact Ot.good rfl h (Nat.le_refl _)
    · refine ((sim_nmP q1 q2 _ _ h').mono (m := (x :: l1').length) (by simp)).bnd ?_
      rintro b _ r' s' hn' rfl hr'
      exact Ot.good rfl hr' hn'
theorem sim_agg {q1 q2 : Int} {c1 c2 : List Tk → Rs Ex} (hc : Sim Z Eqx c1 c2) (x : Tk) (p : Int) {l1 l2 : List Tk} (h : Rl Z l1 l2) : Ot Z (x :: l1).length Eqx (aggP q1 c1 (x :: l1)) (aggP q2 c2 (x.put p :: l2)) := by
  unfold aggP
  refine ((sim_grp q1 q2 _ _ h).mono (m := (x :: l1).length) (by simp)).bnd ?_
  rintro a _ r s hn rfl hr
  refine ((sim_brk hc _ _ hr).mono hn).bnd ?_
  intro y y' r' s' hn' hy hr'
  exact Ot.good (eqx_agg _ _ _ _ _ _ hy) hr' hn'
theorem Rl.grp {l1 l2 : List Tk} (h : Rl Z l1 l2) (q1 q2 : Int) : ((hd q1 l1).k == 1 && isGrpB (hd q1 l1).t) = ((hd q2 l2).k == 1 && isGrpB (hd q2 l2).t) := by
  rcases h.cases q1 with ⟨hk, _, c, R, rfl, h5, ht⟩ | ⟨x, p, l1', l2', rfl, rfl, hx, h'⟩
  · have e : (hd q2 (c :: R)).k = 5 := h5
    rw [hk, e]
    rfl
  · rfl
theorem sim_nam {q1 q2 : Int} {c1 c2 : List Tk → Rs Ex} (hc : Sim Z Eqx c1 c2) (x : Tk) (p : Int) {l1 l2 : List Tk} (h : Rl Z l1 l2) (hall : Rl Z (x :: l1) (x.put p :: l2)) : Ot Z (x :: l1).length Eqx (namP q1 c1 (x :: l1)) (namP q2 c2 (x.put p :: l2)) := by
  unfold namP
  rw [List.tail_cons, List.tail_cons, ← h.sg q1 q2 (by decide), ← h.grp q1 q2]
  have e : hd q2 (x.put p :: l2) = x.put p := rfl
  have e' : hd q1 (x :: l1) = x := rfl
  rw [e, e']
  show Ot Z _ _ _ (if (isAggB x.t && _) = true then _ else if (isModB x.t && _) = true then _ else _)
  split
  · exact sim_agg hc x p h
  · split
    · exact Ot.bad
    · split
      · exact sim_call hc x p h
      · exact sim_selP q1 q2 _ _ hall
theorem sim_prm {q1 q2 : Int} {c1 c2 : List Tk → Rs Ex} (hc : Sim Z Eqx c1 c2) : Sim Z Eqx (prmP q1 c1) (prmP q2 c2) := by
  intro l1 l2 h
  rcases h.cases q1 with ⟨hk, _, c, R, rfl, h5, ht⟩ | ⟨x, p, l1', l2', rfl, rfl, hx, h'⟩
  · unfold prmP
    rw [if_neg (by rw [hk]; decide), if_neg (by rw [hk]; decide), sg0 hk, sg0 hk, if_neg (by decide), if_neg (by decide)]
    exact Ot.bad
  · have h1 := sim_nam (q1 := q1) (q2 := q2) hc x p h' h
    have h2 := sim_brk (q1 := q1) (q2 := q2) hc _ _ h
    have h3 := sim_selP q1 q2 _ _ h
    show Ot Z _ _ (if x.k = 2 then .inr (eNum x.p x.o x.n, l1') else if x.k = 1 then namP q1 c1 (x :: l1') else if sg x [40] = true then brkP q1 c1 (x :: l1') else if sg x [123] = true then selP q1 (x :: l1') else .inl _) (if x.k = 2 then .inr (eNum p x.o x.n, l2') else if x.k = 1 then namP q2 c2 (x.put p :: l2') else if sg x [40] = true then brkP q2 c2 (x.put p :: l2') else if sg x [123] = true then selP q2 (x.put p :: l2') else .inl _)
    split
    · exact Ot.good (eqx_num _ _ _ _) h' (by simp)
    · split
      · exact h1
      · split
        · exact h2
        · split
          · exact h3
          · exact Ot.bad
theorem sim_un {q1 q2 : Int} {n1 n2 c1 c2 : List Tk → Rs Ex} (hn : Sim Z Eqx n1 n2) (hc : Sim Z Eqx c1 c2) : Sim Z Eqx (unP q1 n1 c1) (unP q2 n2 c2) := by
  intro l1 l2 h
  unfold unP
  rw [← h.sg q1 q2 (by decide)]
  split
  · exact sim_prm hc _ _ h
  · rename_i hs
    rcases h.cases q1 with ⟨hk, _, c, R, rfl, h5, ht⟩ | ⟨x, p, l1', l2', rfl, rfl, hx, h'⟩
    · exact absurd (sg0 hk) hs
    · refine ((hn _ _ h').mono (m := (x :: l1').length) (by simp)).bnd ?_
      intro a b r s hn ha hr
      exact Ot.good (eqx_neg _ _ ha) hr hn
theorem sim_deep {q : Int} {f : List Tk → Rs Ex} : Sim Z Eqx f (Go.Proofs.YtkppcgimhnocdabGreatDoor.deep q) := fun _ _ _ => Ot.deep
theorem sim_unD (q1 q2 : Int) : ∀ (d2 d1 : Nat), d2 ≤ d1 → Sim Z Eqx (unD q1 d1) (unD q2 d2)
  | 0, d1, _ => by
    rw [unD_eq q1, unD_eq q2]
    exact sim_un sim_deep sim_deep
  | d2 + 1, 0, h => by omega
  | d2 + 1, d1 + 1, h => by
    have ih := sim_unD q1 q2 d2 d1 (by omega)
    exact sim_un ih (sim_cmp ih)
end Go.Proofs.YtkppcgimhnocdabGreatDoor
/- What is read is small enough; its errors, their places; trees that are the same but for places: plain facts. -/
namespace Go.Proofs.YtkppcgimhnocdabGreatDoor
open Go.RowKit

def FT (t : Tk) : Prop := 0 ≤ t.p ∧ t.t.length ≤ 1000000 ∧ -9223372036854775808 ≤ t.n ∧ t.n ≤ 9223372036854775807
theorem mo_ft {x : Mt} (h : MO FT x) : x.name.length ≤ 1000000 ∧ x.text.length ≤ 1000000 := by
  rcases h with ⟨t, ht, _, rfl⟩ | ⟨a, b, c, ha, _, hc, _, _, _, _, rfl⟩
  · exact ⟨by show nmL.length ≤ _; decide, ht.2.1⟩
  · exact ⟨ha.2.1, hc.2.1⟩
theorem once_len {ns : List Str} (h : fewN ns = true) : ns.length ≤ 8 := by
  unfold fewN at h
  rw [Bool.and_eq_true, decide_eq_true_eq] at h
  exact h.1
theorem go_ft {b c : Bool} {ns : List Str} (h : GO FT b c ns) : ns.length ≤ 8 ∧ ∀ x ∈ ns, x.length ≤ 1000000 := by
  rcases h with ⟨_, _, rfl⟩ | ⟨_, hf, hn⟩
  · exact ⟨by simp, fun x hx => by simp at hx⟩
  · refine ⟨once_len hf, fun x hx => ?_⟩
    obtain ⟨t, ht, _, rfl⟩ := hn x hx
    exact ht.2.1
theorem fine_ok : RdOK FT (fun n e => smB e = true ∧ sz e ≤ n) := {
  num := fun t ht _ => by
    unfold eNum
    rw [smB_mk, smBL, sz_mk, szL]
    obtain ⟨_, h2, h3, h4⟩ := ht
    simp [h3, h4]
  sel := fun p m r hm hl _ => by
    unfold eSel
    rw [smB_mk, smBL, sz_mk, szL]
    have h1 : m.all (fun x => decide (x.name.length ≤ 1000000) && decide (x.text.length ≤ 1000000)) = true := by
      rw [List.all_eq_true]
      intro x hx
      have := mo_ft (hm x hx)
      simp [this.1, this.2]
    have h2 : m.length ≤ 1000000 := by omega
    simp [h1, h2]
  call := fun n t a ht _ _ _ ha => by
    unfold eCall
    rw [smB_mk, smBL, smBL, sz_mk, szL, szL, ha.1]
    simp [ht.2.1]
    omega
  agg := fun n t b1 b2 ns a ht _ hg ha => by
    unfold eAgg
    rw [smB_mk, smBL, smBL, sz_mk, szL, szL, ha.1]
    obtain ⟨g1, g2⟩ := go_ft hg
    have h1 : ns.all (fun x => decide (x.length ≤ 1000000)) = true := by
      rw [List.all_eq_true]
      intro x hx
      simp [g2 x hx]
    have h2 : ns.length ≤ 1000000 := by omega
    simp [ht.2.1, h1, h2]
    omega
  bin := fun n m t b3 b4 ns a b ht _ _ hg ha hb => by
    unfold eBin
    rw [smB_mk, smBL, smBL, smBL, sz_mk, szL, szL, szL, ha.1, hb.1]
    obtain ⟨g1, g2⟩ := go_ft hg
    have h1 : ns.all (fun x => decide (x.length ≤ 1000000)) = true := by
      rw [List.all_eq_true]
      intro x hx
      simp [g2 x hx]
    have h2 : ns.length ≤ 1000000 := by omega
    simp [ht.2.1, h1, h2]
    omega
  neg := fun n t a ht ha => by
    unfold eNeg
    rw [smB_mk, smBL, smBL, sz_mk, szL, szL, ha.1]
    simp
    omega }
theorem okt_ft {y : Tk} {p : Int} (h : Okt y) (hp : 0 ≤ p) : FT (y.put p) := by
  rcases h with ⟨s, hs, rfl⟩ | ⟨v, h1, h2, rfl⟩ | ⟨n, h1, h2, rfl⟩ | ⟨s, h1, _, rfl⟩ | ⟨s, hs, rfl⟩
  · have := name_len hs
    exact ⟨hp, by show s.length ≤ _; omega, (by decide : (-9223372036854775808 : Int) ≤ 0), (by decide : (0 : Int) ≤ 9223372036854775807)⟩
  · exact ⟨hp, by simp [Tk.put, tNum], by show _ ≤ v; omega, h2⟩
  · exact ⟨hp, by simp [Tk.put, tDur], (by decide : (-9223372036854775808 : Int) ≤ 0), (by decide : (0 : Int) ≤ 9223372036854775807)⟩
  · exact ⟨hp, by show s.length ≤ _; omega, (by decide : (-9223372036854775808 : Int) ≤ 0), (by decide : (0 : Int) ≤ 9223372036854775807)⟩
  · have := sign_len hs
    exact ⟨hp, by show s.length ≤ _; omega, (by decide : (-9223372036854775808 : Int) ≤ 0), (by decide : (0 : Int) ≤ 9223372036854775807)⟩
theorem okt_k {y : Tk} (h : Okt y) : y.k ≠ 0 := by
  rcases h with ⟨s, _, rfl⟩ | ⟨v, _, _, rfl⟩ | ⟨n, _, _, rfl⟩ | ⟨s, _, _, rfl⟩ | ⟨s, _, rfl⟩ <;> exact fun h => by cases h
theorem sc_toks {s : Str} {l : List Tk} (h : sc s = .inr l) : l.length ≤ s.length ∧ ∀ x ∈ l, ∃ y p, Okt y ∧ x = y.put p ∧ 0 ≤ p := by
  unfold sc at h
  obtain ⟨g1, g2, _⟩ := (scanG_facts s.length (lead s).length (lead s) (Nat.le_refl _) (lead_le s)).2 l h
  have := lead_le s
  refine ⟨by omega, fun x hx => ?_⟩
  obtain ⟨y, p, h1, h2, h3, _⟩ := g2 x hx
  exact ⟨y, p, h1, h2, h3⟩
/-- A text that can be read: its signs, and what is read. -/
theorem ps_good {s : Str} (h : psE s = 0) : s.length ≤ 600 ∧ ∃ l e, sc s = .inr l ∧ rdP (l ++ [tEnd s.length]) = .inr e ∧ psX s = e ∧ scE s = 0 ∧ scL s = l ++ [tEnd s.length] := by
  unfold psE at h
  by_cases he : scE s = 0
  · rw [if_pos he] at h
    have hb : s.length ≤ 600 := by
      by_cases hb : 600 < s.length
      · rw [(sc_big hb).1] at he; cases he
      · omega
    refine ⟨hb, ?_⟩
    rcases sc_cases hb with ⟨p, _, e2, _, _⟩ | ⟨l, e1, _, _, e4⟩
    · rw [e2] at he; cases he
    · rw [e4] at h
      unfold rdE at h
      cases hr : rdP (l ++ [tEnd s.length]) with
      | inl er =>
        rw [hr] at h
        obtain ⟨h1, _⟩ := rd_all (T := fun _ => True) (E := fun _ => True) (X := fun _ _ => True) (fun _ _ => trivial) trivial ⟨fun _ _ _ => trivial, fun _ _ _ _ _ _ => trivial, fun _ _ _ _ _ _ _ _ => trivial, fun _ _ _ _ _ _ _ _ _ _ => trivial, fun _ _ _ _ _ _ _ _ _ _ _ _ _ _ => trivial, fun _ _ _ _ _ => trivial⟩ (l := l ++ [tEnd s.length]) (fun _ _ => trivial)
        have h : er.2 = 0 := h
        have := (h1 er hr).2
        omega
      | inr e => exact ⟨l, e, e1, hr, by unfold psX rdX; rw [if_pos he, e4, hr], he, e4⟩
  · rw [if_neg he] at h
    exact absurd h he
theorem scL_ft (s : Str) : All FT (scL s) := by
  by_cases hb : 600 < s.length
  · rw [(sc_big hb).2.2]
    intro t ht
    simp at ht
  · rcases sc_cases (s := s) (by omega) with ⟨p, _, _, _, e4⟩ | ⟨l, e1, _, _, e4⟩
    · rw [e4]
      intro t ht
      simp at ht
    · rw [e4]
      intro t ht
      rcases List.mem_append.1 ht with ht | ht
      · obtain ⟨y, p, h1, rfl, h3⟩ := (sc_toks e1).2 t ht
        exact okt_ft h1 h3
      · simp at ht
        subst ht
        exact ⟨by show (0 : Int) ≤ (s.length : Nat); omega, by simp [tEnd], by show (-9223372036854775808 : Int) ≤ 0; decide, by show (0 : Int) ≤ 9223372036854775807; decide⟩
/-- What is read of whatever text is small enough, and its place is none below nought. -/
theorem ps_fine (s : Str) : smB (psX s) = true ∧ sz (psX s) ≤ s.length + 1 ∧ 0 ≤ psA s := by
  have h0 : smB ex0 = true ∧ sz ex0 ≤ s.length + 1 := by
    unfold ex0
    rw [smB_mk, smBL, sz_mk, szL]
    simp
  unfold psX psA
  by_cases he : scE s = 0
  · rw [if_pos he, if_pos he]
    obtain ⟨r1, r2⟩ := rd_all (T := FT) (E := fun p => 0 ≤ p) (fun t ht => ht.1) (by decide) fine_ok (scL_ft s)
    have hl := (scL_facts s).1
    unfold rdX rdA
    cases hr : rdP (scL s) with
    | inl er => exact ⟨h0.1, h0.2, (r1 er hr).1⟩
    | inr e =>
      obtain ⟨k, ⟨a, b⟩, c⟩ := r2 e hr
      exact ⟨a, by show sz e ≤ _; omega, by show (0 : Int) ≤ 0; decide⟩
  · rw [if_neg he, if_neg he]
    exact ⟨h0.1, h0.2, (scL_facts s).2.2.1⟩
/-! ### The same, but for places -/
theorem msEq_refl : ∀ m, msEq m m = true
  | [] => by simp [msEq]
  | x :: m => by rw [msEq, msEq_refl m]; simp [mEq]
theorem strL_len : ∀ l, (strL l).length = l.length
  | [] => by rw [strL]
  | x :: l => by rw [strL, List.length_cons, List.length_cons, strL_len l]
theorem smL_of : ∀ (l m : List Ex), (∀ x ∈ l, ∀ y, str x = str y → smE x y = true) → strL l = strL m → smL l m = true
  | [], [], _, _ => by rw [smL]
  | [], y :: m, _, h => by rw [strL, strL] at h; cases h
  | x :: l, [], _, h => by rw [strL, strL] at h; cases h
  | x :: l, y :: m, hi, h => by
    rw [strL, strL] at h
    injection h with h1 h2
    rw [smL, hi x (by simp) y h1, smL_of l m (fun z hz => hi z (by simp [hz])) h2]
    rfl
theorem smE_of (a : Ex) : ∀ (b : Ex), str a = str b → smE a b = true := by
  refine Ex.ind (fun a => ∀ b, str a = str b → smE a b = true) ?_ a
  rintro ⟨k, p, o, v, s, m, r, b1, b2, b3, b4, ns, ks⟩ ih ⟨k', p', o', v', s', m', r', b1', b2', b3', b4', ns', ks'⟩ h
  rw [str_mk, str_mk] at h
  injection h with h1 h2 h3 h4 h5 h6 h7 h8 h9 h10 h11 h12 h13
  subst h1 h3 h4 h5 h6 h7 h8 h9 h10 h11 h12
  rw [smE_mk, smL_of ks ks' ih h13]
  simp [alk, nEq, msEq_refl]
theorem smE_eqx {a b : Ex} (h : Eqx a b) : smE a b = true := smE_of a b h
end Go.Proofs.YtkppcgimhnocdabGreatDoor
/- The names that selectors begin with: plain facts. -/
namespace Go.Proofs.YtkppcgimhnocdabGreatDoor
open Go.RowKit

def mN (k : Nat) : Str := [109, UInt8.ofNat (97 + k)]
def mX (g k : Nat) : Str := if g = 0 then mN k else if g = 1 then [115, 117, 109, 32, 40, 114, 97, 116, 101, 40] ++ mN k ++ [91, 53, 116, 93, 41, 41] else [123, 97, 61, 34, 98, 34, 44, 32, 95, 95, 110, 97, 109, 101, 95, 95, 61, 34] ++ mN k ++ [34, 125]
def mTk (g k : Nat) : List Tk := if g = 0 then [⟨1, 2, mN k, false, 0, 0⟩] else if g = 1 then [⟨1, 2, [115, 117, 109], false, 0, 0⟩, ⟨5, 6, [40], false, 0, 0⟩, ⟨1, 7, [114, 97, 116, 101], false, 0, 0⟩, ⟨5, 11, [40], false, 0, 0⟩, ⟨1, 12, mN k, false, 0, 0⟩, ⟨5, 14, [91], false, 0, 0⟩, ⟨3, 15, [], false, 0, 5⟩, ⟨5, 17, [93], false, 0, 0⟩, ⟨5, 18, [41], false, 0, 0⟩, ⟨5, 19, [41], false, 0, 0⟩] else [⟨5, 2, [123], false, 0, 0⟩, ⟨1, 3, [97], false, 0, 0⟩, ⟨5, 4, [61], false, 0, 0⟩, ⟨4, 5, [98], false, 0, 0⟩, ⟨5, 8, [44], false, 0, 0⟩, ⟨1, 10, [95, 95, 110, 97, 109, 101, 95, 95], false, 0, 0⟩, ⟨5, 18, [61], false, 0, 0⟩, ⟨4, 19, mN k, false, 0, 0⟩, ⟨5, 23, [125], false, 0, 0⟩]
def mE (g k : Nat) (N : Int) : Ex := if g = 0 then eSel (2 + N) [⟨nmL, 1, mN k⟩] 0 else if g = 1 then eAgg (2 + N) [115, 117, 109] false false [] (eCall (7 + N) [114, 97, 116, 101] (eSel (12 + N) [⟨nmL, 1, mN k⟩] 5)) else eSel (2 + N) [⟨[97], 1, [98]⟩, ⟨nmL, 1, mN k⟩] 0
def plus (p : Int) : Tk := ⟨5, p, [43], false, 0, 0⟩
theorem m_sc  : ∀ (g k : Nat), g ≤ 2 → k ≤ 7 → sc (43 :: 32 :: mX g k) = .inr (plus 0 :: mTk g k)
  | 0, 0, _, _ => by kernel_rfl
  | 0, 1, _, _ => by kernel_rfl
  | 0, 2, _, _ => by kernel_rfl
  | 0, 3, _, _ => by kernel_rfl
  | 0, 4, _, _ => by kernel_rfl
  | 0, 5, _, _ => by kernel_rfl
  | 0, 6, _, _ => by kernel_rfl
  | 0, 7, _, _ => by kernel_rfl
  | 1, 0, _, _ => by kernel_rfl
  | 1, 1, _, _ => by kernel_rfl
  | 1, 2, _, _ => by kernel_rfl
  | 1, 3, _, _ => by kernel_rfl
  | 1, 4, _, _ => by kernel_rfl
  | 1, 5, _, _ => by kernel_rfl
  | 1, 6, _, _ => by kernel_rfl
  | 1, 7, _, _ => by kernel_rfl
  | 2, 0, _, _ => by kernel_rfl
  | 2, 1, _, _ => by kernel_rfl
  | 2, 2, _, _ => by kernel_rfl
  | 2, 3, _, _ => by kernel_rfl
  | 2, 4, _, _ => by kernel_rfl
  | 2, 5, _, _ => by kernel_rfl
  | 2, 6, _, _ => by kernel_rfl
  | 2, 7, _, _ => by kernel_rfl
  | g + 3, _, h, _ => by omega
  | 0, k + 8, _, h => by omega
  | 1, k + 8, _, h => by omega
  | 2, k + 8, _, h => by omega
theorem m_rdE (q N p : Int) (r : List Tk) : ∀ (g k : Nat), g ≤ 2 → k ≤ 7 → chP q 3 (unD q 15) ((mTk g k).map (sh N) ++ ⟨0, p, [], false, 0, 0⟩ :: r) = .inr (mE g k N, ⟨0, p, [], false, 0, 0⟩ :: r)
  | 0, 0, _, _ => by kernel_rfl
  | 0, 1, _, _ => by kernel_rfl
  | 0, 2, _, _ => by kernel_rfl
  | 0, 3, _, _ => by kernel_rfl
  | 0, 4, _, _ => by kernel_rfl
  | 0, 5, _, _ => by kernel_rfl
  | 0, 6, _, _ => by kernel_rfl
  | 0, 7, _, _ => by kernel_rfl
  | 1, 0, _, _ => by kernel_rfl
  | 1, 1, _, _ => by kernel_rfl
  | 1, 2, _, _ => by kernel_rfl
  | 1, 3, _, _ => by kernel_rfl
  | 1, 4, _, _ => by kernel_rfl
  | 1, 5, _, _ => by kernel_rfl
  | 1, 6, _, _ => by kernel_rfl
  | 1, 7, _, _ => by kernel_rfl
  | 2, 0, _, _ => by kernel_rfl
  | 2, 1, _, _ => by kernel_rfl
  | 2, 2, _, _ => by kernel_rfl
  | 2, 3, _, _ => by kernel_rfl
  | 2, 4, _, _ => by kernel_rfl
  | 2, 5, _, _ => by kernel_rfl
  | 2, 6, _, _ => by kernel_rfl
  | 2, 7, _, _ => by kernel_rfl
  | g + 3, _, h, _ => by omega
  | 0, k + 8, _, h => by omega
  | 1, k + 8, _, h => by omega
  | 2, k + 8, _, h => by omega
theorem m_modE (q N p : Int) (r : List Tk) : ∀ (g k : Nat), g ≤ 2 → k ≤ 7 → modP q ((mTk g k).map (sh N) ++ ⟨0, p, [], false, 0, 0⟩ :: r) = .inr (⟨false, false, []⟩, (mTk g k).map (sh N) ++ ⟨0, p, [], false, 0, 0⟩ :: r)
  | 0, 0, _, _ => by kernel_rfl
  | 0, 1, _, _ => by kernel_rfl
  | 0, 2, _, _ => by kernel_rfl
  | 0, 3, _, _ => by kernel_rfl
  | 0, 4, _, _ => by kernel_rfl
  | 0, 5, _, _ => by kernel_rfl
  | 0, 6, _, _ => by kernel_rfl
  | 0, 7, _, _ => by kernel_rfl
  | 1, 0, _, _ => by kernel_rfl
  | 1, 1, _, _ => by kernel_rfl
  | 1, 2, _, _ => by kernel_rfl
  | 1, 3, _, _ => by kernel_rfl
  | 1, 4, _, _ => by kernel_rfl
  | 1, 5, _, _ => by kernel_rfl
  | 1, 6, _, _ => by kernel_rfl
  | 1, 7, _, _ => by kernel_rfl
  | 2, 0, _, _ => by kernel_rfl
  | 2, 1, _, _ => by kernel_rfl
  | 2, 2, _, _ => by kernel_rfl
  | 2, 3, _, _ => by kernel_rfl
  | 2, 4, _, _ => by kernel_rfl
  | 2, 5, _, _ => by kernel_rfl
  | 2, 6, _, _ => by kernel_rfl
  | 2, 7, _, _ => by kernel_rfl
  | g + 3, _, h, _ => by omega
  | 0, k + 8, _, h => by omega
  | 1, k + 8, _, h => by omega
  | 2, k + 8, _, h => by omega
theorem m_rdP (q N p : Int) (r : List Tk) : ∀ (g k : Nat), g ≤ 2 → k ≤ 7 → chP q 3 (unD q 15) ((mTk g k).map (sh N) ++ ⟨5, p, [43], false, 0, 0⟩ :: r) = .inr (mE g k N, ⟨5, p, [43], false, 0, 0⟩ :: r)
  | 0, 0, _, _ => by kernel_rfl
  | 0, 1, _, _ => by kernel_rfl
  | 0, 2, _, _ => by kernel_rfl
  | 0, 3, _, _ => by kernel_rfl
  | 0, 4, _, _ => by kernel_rfl
  | 0, 5, _, _ => by kernel_rfl
  | 0, 6, _, _ => by kernel_rfl
  | 0, 7, _, _ => by kernel_rfl
  | 1, 0, _, _ => by kernel_rfl
  | 1, 1, _, _ => by kernel_rfl
  | 1, 2, _, _ => by kernel_rfl
  | 1, 3, _, _ => by kernel_rfl
  | 1, 4, _, _ => by kernel_rfl
  | 1, 5, _, _ => by kernel_rfl
  | 1, 6, _, _ => by kernel_rfl
  | 1, 7, _, _ => by kernel_rfl
  | 2, 0, _, _ => by kernel_rfl
  | 2, 1, _, _ => by kernel_rfl
  | 2, 2, _, _ => by kernel_rfl
  | 2, 3, _, _ => by kernel_rfl
  | 2, 4, _, _ => by kernel_rfl
  | 2, 5, _, _ => by kernel_rfl
  | 2, 6, _, _ => by kernel_rfl
  | 2, 7, _, _ => by kernel_rfl
  | g + 3, _, h, _ => by omega
  | 0, k + 8, _, h => by omega
  | 1, k + 8, _, h => by omega
  | 2, k + 8, _, h => by omega
theorem m_modP (q N p : Int) (r : List Tk) : ∀ (g k : Nat), g ≤ 2 → k ≤ 7 → modP q ((mTk g k).map (sh N) ++ ⟨5, p, [43], false, 0, 0⟩ :: r) = .inr (⟨false, false, []⟩, (mTk g k).map (sh N) ++ ⟨5, p, [43], false, 0, 0⟩ :: r)
  | 0, 0, _, _ => by kernel_rfl
  | 0, 1, _, _ => by kernel_rfl
  | 0, 2, _, _ => by kernel_rfl
  | 0, 3, _, _ => by kernel_rfl
  | 0, 4, _, _ => by kernel_rfl
  | 0, 5, _, _ => by kernel_rfl
  | 0, 6, _, _ => by kernel_rfl
  | 0, 7, _, _ => by kernel_rfl
  | 1, 0, _, _ => by kernel_rfl
  | 1, 1, _, _ => by kernel_rfl
  | 1, 2, _, _ => by kernel_rfl
  | 1, 3, _, _ => by kernel_rfl
  | 1, 4, _, _ => by kernel_rfl
  | 1, 5, _, _ => by kernel_rfl
  | 1, 6, _, _ => by kernel_rfl
  | 1, 7, _, _ => by kernel_rfl
  | 2, 0, _, _ => by kernel_rfl
  | 2, 1, _, _ => by kernel_rfl
  | 2, 2, _, _ => by kernel_rfl
  | 2, 3, _, _ => by kernel_rfl
  | 2, 4, _, _ => by kernel_rfl
  | 2, 5, _, _ => by kernel_rfl
  | 2, 6, _, _ => by kernel_rfl
  | 2, 7, _, _ => by kernel_rfl
  | g + 3, _, h, _ => by omega
  | 0, k + 8, _, h => by omega
  | 1, k + 8, _, h => by omega
  | 2, k + 8, _, h => by omega
theorem m_met (N : Int) : ∀ (g k : Nat), g ≤ 2 → k ≤ 7 → metE (mE g k N) = if g = 2 then [] else [mN k]
  | 0, 0, _, _ => evE_ok metG 9 _ _ (by kernel_rfl)
  | 0, 1, _, _ => evE_ok metG 9 _ _ (by kernel_rfl)
  | 0, 2, _, _ => evE_ok metG 9 _ _ (by kernel_rfl)
  | 0, 3, _, _ => evE_ok metG 9 _ _ (by kernel_rfl)
  | 0, 4, _, _ => evE_ok metG 9 _ _ (by kernel_rfl)
  | 0, 5, _, _ => evE_ok metG 9 _ _ (by kernel_rfl)
  | 0, 6, _, _ => evE_ok metG 9 _ _ (by kernel_rfl)
  | 0, 7, _, _ => evE_ok metG 9 _ _ (by kernel_rfl)
  | 1, 0, _, _ => evE_ok metG 9 _ _ (by kernel_rfl)
  | 1, 1, _, _ => evE_ok metG 9 _ _ (by kernel_rfl)
  | 1, 2, _, _ => evE_ok metG 9 _ _ (by kernel_rfl)
  | 1, 3, _, _ => evE_ok metG 9 _ _ (by kernel_rfl)
  | 1, 4, _, _ => evE_ok metG 9 _ _ (by kernel_rfl)
  | 1, 5, _, _ => evE_ok metG 9 _ _ (by kernel_rfl)
  | 1, 6, _, _ => evE_ok metG 9 _ _ (by kernel_rfl)
  | 1, 7, _, _ => evE_ok metG 9 _ _ (by kernel_rfl)
  | 2, 0, _, _ => evE_ok metG 9 _ _ (by kernel_rfl)
  | 2, 1, _, _ => evE_ok metG 9 _ _ (by kernel_rfl)
  | 2, 2, _, _ => evE_ok metG 9 _ _ (by kernel_rfl)
  | 2, 3, _, _ => evE_ok metG 9 _ _ (by kernel_rfl)
  | 2, 4, _, _ => evE_ok metG 9 _ _ (by kernel_rfl)
  | 2, 5, _, _ => evE_ok metG 9 _ _ (by kernel_rfl)
  | 2, 6, _, _ => evE_ok metG 9 _ _ (by kernel_rfl)
  | 2, 7, _, _ => evE_ok metG 9 _ _ (by kernel_rfl)
  | g + 3, _, h, _ => by omega
  | 0, k + 8, _, h => by omega
  | 1, k + 8, _, h => by omega
  | 2, k + 8, _, h => by omega
def mQ (c : Nat × Nat) : List Nat := if c.1 = 2 then [] else [c.2]
def Fit2 (l : List (Nat × Nat)) : Prop := ∀ c ∈ l, c.1 ≤ 2 ∧ c.2 ≤ 7
/-- Terms, one behind the other, each behind its sign. -/
def Mb : List (Nat × Nat) → List Tk → Prop
  | [], T => T = []
  | c :: l, T => ∃ p N r, T = plus p :: ((mTk c.1 c.2).map (sh N) ++ r) ∧ Mb l r
theorem Mb.snoc (c : Nat × Nat) (p N : Int) : ∀ {l : List (Nat × Nat)} {T : List Tk}, Mb l T → Mb (l ++ [c]) (T ++ plus p :: (mTk c.1 c.2).map (sh N))
  | [], T, h => by
    have h : T = [] := h
    subst h
    exact ⟨p, N, [], by simp, rfl⟩
  | d :: l, T, h => by
    obtain ⟨p', N', r, rfl, h⟩ := h
    exact ⟨p', N', r ++ plus p :: (mTk c.1 c.2).map (sh N), by simp, Mb.snoc c p N h⟩
theorem Mb.head {l : List (Nat × Nat)} {T : List Tk} (h : Mb l T) : (l = [] ∧ T = []) ∨ ∃ p r, T = ⟨5, p, [43], false, 0, 0⟩ :: r := by
  cases l with
  | nil => exact Or.inl ⟨rfl, h⟩
  | cons c l =>
    obtain ⟨p, N, r, rfl, _⟩ := h
    exact Or.inr ⟨p, _, rfl⟩
theorem metE_bin (p : Int) (s : Str) (b3 b4 : Bool) (ns : List Str) (a b : Ex) : metE (eBin p s b3 b4 ns a b) = metE a ++ metE b := by
  unfold eBin
  rw [metE_mk, metL, metL, metL]
  simp [metH]
theorem m_term (q N : Int) {g k : Nat} (hg : g ≤ 2) (hk : k ≤ 7) {l : List (Nat × Nat)} {T : List Tk} (h : Mb l T) (m : Int) :
    chP q 3 (unD q 15) ((mTk g k).map (sh N) ++ (T ++ [⟨0, m, [], false, 0, 0⟩])) = .inr (mE g k N, T ++ [⟨0, m, [], false, 0, 0⟩]) ∧ modP q ((mTk g k).map (sh N) ++ (T ++ [⟨0, m, [], false, 0, 0⟩])) = .inr (⟨false, false, []⟩, (mTk g k).map (sh N) ++ (T ++ [⟨0, m, [], false, 0, 0⟩])) := by
  rcases h.head with ⟨_, rfl⟩ | ⟨p, r, rfl⟩
  · exact ⟨m_rdE q N m [] g k hg hk, m_modE q N m [] g k hg hk⟩
  · rw [List.cons_append]
    generalize r ++ [(⟨0, m, [], false, 0, 0⟩ : Tk)] = R
    exact ⟨m_rdP q N p R g k hg hk, m_modP q N p R g k hg hk⟩
theorem m_chain (q m : Int) : ∀ (f : Nat) (l : List (Nat × Nat)) (e : Ex) (T : List Tk), Mb l T → Fit2 l → l.length < f → ∃ e', chF q 2 (chP q 3 (unD q 15)) f e (T ++ [⟨0, m, [], false, 0, 0⟩]) = .inr (e', [⟨0, m, [], false, 0, 0⟩]) ∧ metE e' = metE e ++ l.flatMap fun c => if c.1 = 2 then [] else [mN c.2]
  | 0, l, e, T, _, _, hf => by omega
  | f + 1, [], e, T, h, _, _ => by
    have h : T = [] := h
    subst h
    exact ⟨e, rfl, by simp⟩
  | f + 1, c :: l, e, T, h, hfit, hf => by
    obtain ⟨p, N, r, rfl, h⟩ := h
    obtain ⟨h1, h2⟩ := hfit c (by simp)
    obtain ⟨t1, t2⟩ := m_term q N h1 h2 h m
    obtain ⟨e', g1, g2⟩ := m_chain q m f l (eBin p [43] false false [] e (mE c.1 c.2 N)) r h (fun x hx => hfit x (by simp [hx])) (by simp at hf; omega)
    refine ⟨e', ?_, ?_⟩
    · have ea : plus p :: ((mTk c.1 c.2).map (sh N) ++ r) ++ [⟨0, m, [], false, 0, 0⟩] = plus p :: ((mTk c.1 c.2).map (sh N) ++ (r ++ [⟨0, m, [], false, 0, 0⟩])) := by simp
      rw [ea, chF]
      show bnd (joinP q _ e (plus p :: _)) _ = _
      unfold joinP
      rw [List.tail_cons, t2]
      show bnd (bnd (chP q 3 (unD q 15) _) _) _ = _
      rw [t1]
      exact g1
    · rw [g2, metE_bin, m_met N c.1 c.2 h1 h2]
      simp [List.append_assoc]
/-! ### The text -/
def mT : List (Nat × Nat) → Str
  | [] => [49]
  | c :: l => mT l ++ 32 :: (43 :: 32 :: mX c.1 c.2)
theorem mX_len (g k : Nat) : (mX g k).length ≤ 22 := by unfold mX mN; split <;> simp; split <;> simp
theorem mT_len : ∀ l, (mT l).length ≤ 25 * l.length + 1
  | [] => by simp [mT]
  | c :: l => by
    have := mT_len l
    have := mX_len c.1 c.2
    rw [mT]
    simp
    omega
theorem sh_plus (N : Int) : sh N (plus 0) = plus (0 + N) := rfl
theorem mT_sc : ∀ l, Fit2 l → ∃ T, sc (mT l) = .inr (⟨2, 0, [], false, 1000000, 0⟩ :: T) ∧ Mb l.reverse T
  | [], _ => ⟨[], by kernel_rfl, rfl⟩
  | c :: l, hf => by
    obtain ⟨T, h, hT⟩ := mT_sc l (fun x hx => hf x (by simp [hx]))
    obtain ⟨h1, h2⟩ := hf c (by simp)
    have hj := sc_join (b := 43 :: 32 :: mX c.1 c.2) h
    rw [m_sc c.1 c.2 h1 h2] at hj
    generalize ((mT l).length + 1 : Nat) = N at hj
    rw [mT, List.reverse_cons]
    exact ⟨T ++ plus (0 + N) :: (mTk c.1 c.2).map (sh N), hj, hT.snoc c _ _⟩
theorem num_one_rd (q m : Int) {l : List (Nat × Nat)} {T : List Tk} (h : Mb l T) : chP q 3 (unD q 15) (⟨2, 0, [], false, 1000000, 0⟩ :: (T ++ [⟨0, m, [], false, 0, 0⟩])) = .inr (eNum 0 false 1000000, T ++ [⟨0, m, [], false, 0, 0⟩]) := by
  rcases h.head with ⟨_, rfl⟩ | ⟨p, r, rfl⟩
  · rfl
  · rfl
theorem mT_read {l : List (Nat × Nat)} (hf : Fit2 l) (hl : l.length ≤ 20) : psE (mT l) = 0 ∧ metE (psX (mT l)) = l.reverse.flatMap fun c => if c.1 = 2 then [] else [mN c.2] := by
  obtain ⟨T, hs, hT⟩ := mT_sc l hf
  have := mT_len l
  obtain ⟨e1, _, e3⟩ := sc_ok (s := mT l) (by omega) hs
  have hr : ∃ e, rdP (scL (mT l)) = .inr e ∧ metE e = l.reverse.flatMap fun c => if c.1 = 2 then [] else [mN c.2] := by
    rw [e3]
    unfold rdP
    show ∃ e, whP _ (_ :: (T ++ [⟨0, ((mT l).length : Nat), [], false, 0, 0⟩])) = _ ∧ _
    generalize (((mT l).length : Nat) : Int) = m
    generalize endP _ = q
    have hTl : l.reverse.length < (T ++ [(⟨0, m, [], false, 0, 0⟩ : Tk)]).length + 1 := by
      have : ∀ {l : List (Nat × Nat)} {T : List Tk}, Mb l T → l.length ≤ T.length := by
        intro l
        induction l with
        | nil => intro T _; simp
        | cons c l ih =>
          rintro T ⟨p, N, r, rfl, h⟩
          have := ih h
          simp
          omega
      have := this hT
      simp at this ⊢
      omega
    obtain ⟨e, g1, g2⟩ := m_chain q m _ l.reverse (eNum 0 false 1000000) T hT (fun x hx => hf x (by simpa using hx)) hTl
    refine ⟨e, ?_, ?_⟩
    · unfold whP
      have h2 : chP q 2 (chP q 3 (unD q 15)) (⟨2, 0, [], false, 1000000, 0⟩ :: (T ++ [⟨0, m, [], false, 0, 0⟩])) = .inr (e, [⟨0, m, [], false, 0, 0⟩]) := by
        show bnd (chP q 3 (unD q 15) _) _ = _
        rw [num_one_rd q m hT]
        exact g1
      have h1 : cmpP q (unD q 15) (⟨2, 0, [], false, 1000000, 0⟩ :: (T ++ [⟨0, m, [], false, 0, 0⟩])) = .inr (e, [⟨0, m, [], false, 0, 0⟩]) := by
        show bnd (chP q 2 (chP q 3 (unD q 15)) _) _ = _
        rw [h2]
        rfl
      rw [h1]
      rfl
    · rw [g2]
      unfold eNum
      rw [metE_mk, metL]
      simp [metH]
  obtain ⟨e, r1, r2⟩ := hr
  have q1 : psE (mT l) = 0 := by unfold psE rdE; rw [if_pos e1, r1]
  have q2 : psX (mT l) = e := by unfold psX rdX; rw [if_pos e1, r1]
  exact ⟨q1, by rw [q2]; exact r2⟩
end Go.Proofs.YtkppcgimhnocdabGreatDoor
/- Names in order, each once: plain facts. -/
namespace Go.Proofs.YtkppcgimhnocdabGreatDoor
open Go.RowKit

theorem rise_one : ∀ (A B : List Nat), A.Pairwise (· < ·) → B.Pairwise (· < ·) → (∀ x, x ∈ A ↔ x ∈ B) → A = B
  | [], [], _, _, _ => rfl
  | [], b :: B, _, _, h => by have := (h b).2 (by simp); simp at this
  | a :: A, [], _, _, h => by have := (h a).1 (by simp); simp at this
  | a :: A, b :: B, hA, hB, h => by
    rw [List.pairwise_cons] at hA hB
    have e : a = b := by
      have h1 := (h a).1 (by simp)
      have h2 := (h b).2 (by simp)
      rcases List.mem_cons.1 h1 with h1 | h1
      · exact h1
      · rcases List.mem_cons.1 h2 with h2 | h2
        · exact h2.symm
        · have := hA.1 b h2
          have := hB.1 a h1
          omega
    subst e
    congr 1
    refine rise_one A B hA.2 hB.2 (fun x => ⟨fun hx => ?_, fun hx => ?_⟩)
    · have := (h x).1 (by simp [hx])
      rcases List.mem_cons.1 this with e | e
      · have := hA.1 x hx
        omega
      · exact e
    · have := (h x).2 (by simp [hx])
      rcases List.mem_cons.1 this with e | e
      · have := hB.1 x hx
        omega
      · exact e
theorem mN_le : ∀ a, a < 8 → ∀ b, b < 8 → decide (a ≤ b) = decide (mN a ≤ mN b) := by decide +kernel
theorem mN_inj : ∀ a, a < 8 → ∀ b, b < 8 → mN a = mN b → a = b := by decide +kernel
def kp (S : List Nat) (j : Nat) : Bool := decide (j = 0 ∨ S.getD j 0 ≠ S.getD (j - 1) 0)
def cpN (S : List Nat) : List Nat := ((List.range S.length).filter (kp S)).map (S.getD · 0)
theorem map_at (S : List Nat) {j : Nat} (h : j < S.length) : (S.map mN).toArray[j]! = mN (S.getD j 0) := by
  rw [getElem!_pos (S.map mN).toArray j (by simpa using h)]
  simp [List.getD, List.getElem?_eq_getElem h]
theorem cp_map (S : List Nat) (hS : ∀ k ∈ S, k < 8) : Lib.compact (S.map mN) = (cpN S).map mN := by
  have hg : ∀ j, j < S.length → S.getD j 0 < 8 := fun j hj => by
    rw [List.getD, List.getElem?_eq_getElem hj]
    exact hS _ (List.getElem_mem hj)
  unfold Lib.compact Lib.compactUpTo cpN
  rw [List.length_map, List.map_map]
  have e : (List.range S.length).filter (Lib.keeps (S.map mN).toArray) = (List.range S.length).filter (kp S) := by
    apply List.filter_congr
    intro j hj
    have hj := List.mem_range.1 hj
    unfold Lib.keeps kp
    by_cases h0 : j = 0
    · simp [h0]
    · rw [map_at S hj, map_at S (show j - 1 < S.length by omega)]
      congr 1
      apply propext
      constructor
      · rintro (h | h)
        · exact Or.inl h
        · exact Or.inr fun e => h (by rw [e])
      · rintro (h | h)
        · exact Or.inl h
        · exact Or.inr fun e => h (mN_inj _ (hg j hj) _ (hg (j - 1) (by omega)) e)
  rw [e]
  apply List.map_congr_left
  intro j hj
  have hj := List.mem_range.1 (List.mem_filter.1 hj).1
  exact map_at S hj
theorem cp_mem (S : List Nat) (x : Nat) : x ∈ cpN S ↔ x ∈ S := by
  unfold cpN
  constructor
  · intro h
    obtain ⟨j, hj, rfl⟩ := List.mem_map.1 h
    have hj := List.mem_range.1 (List.mem_filter.1 hj).1
    rw [List.getD, List.getElem?_eq_getElem hj]
    exact List.getElem_mem hj
  · intro h
    obtain ⟨i, hi, e⟩ := List.getElem_of_mem h
    have : ∀ n, n < S.length → S.getD n 0 = x → x ∈ ((List.range S.length).filter (kp S)).map (S.getD · 0) := by
      intro n
      induction n with
      | zero => intro hn e; exact List.mem_map.2 ⟨0, List.mem_filter.2 ⟨List.mem_range.2 hn, by simp [kp]⟩, e⟩
      | succ n ih =>
        intro hn e
        by_cases hq : S.getD n 0 = x
        · exact ih (by omega) hq
        · exact List.mem_map.2 ⟨n + 1, List.mem_filter.2 ⟨List.mem_range.2 hn, by unfold kp; rw [decide_eq_true_eq]; exact Or.inr (by rw [e, Nat.add_sub_cancel]; exact fun q => hq q.symm)⟩, e⟩
    exact this i hi (by rw [List.getD, List.getElem?_eq_getElem hi]; exact e)
theorem cp_rise (S : List Nat) (h : S.Pairwise (· ≤ ·)) : (cpN S).Pairwise (· < ·) := by
  unfold cpN
  rw [List.pairwise_map]
  have hr : (List.range S.length).Pairwise (· < ·) := List.pairwise_lt_range
  have hf := hr.filter (kp S)
  refine List.Pairwise.imp_of_mem ?_ hf
  intro i j hi hj hij
  have hi' := List.mem_range.1 (List.mem_filter.1 hi).1
  have hj' := List.mem_range.1 (List.mem_filter.1 hj).1
  have hk := (List.mem_filter.1 hj).2
  unfold kp at hk
  rw [decide_eq_true_eq] at hk
  have g : ∀ a b, a ≤ b → b < S.length → S.getD a 0 ≤ S.getD b 0 := by
    intro a b hab hb
    rw [List.getD, List.getD, List.getElem?_eq_getElem hb, List.getElem?_eq_getElem (by omega)]
    by_cases e : a = b
    · subst e; exact Nat.le_refl _
    · exact List.pairwise_iff_getElem.1 h a b (by omega) hb (by omega)
  have g1 := g i (j - 1) (by omega) (by omega)
  have g2 := g (j - 1) j (by omega) hj'
  rcases hk with hk | hk
  · omega
  · omega
theorem mets_of (L : List Nat) (h : ∀ k ∈ L, k < 8) : Lib.compact ((L.map mN).mergeSort fun x y => decide (x ≤ y)) = ((List.range 8).filter fun k => decide (k ∈ L)).map mN := by
  rw [← List.map_mergeSort (r := fun a b => decide (a ≤ b)) (fun a ha b hb => mN_le a (h a ha) b (h b hb))]
  rw [cp_map _ (fun k hk => h k (List.mem_mergeSort.1 hk))]
  congr 1
  refine rise_one _ _ (cp_rise _ ?_) ?_ ?_
  · have := List.pairwise_mergeSort (le := fun a b : Nat => decide (a ≤ b)) (fun a b c h1 h2 => by simp at *; omega) (fun a b => by simp; omega) L
    exact this.imp (fun h => by simpa using h)
  · exact List.pairwise_lt_range.filter _
  · intro x
    rw [cp_mem, List.mem_mergeSort, List.mem_filter, List.mem_range, decide_eq_true_eq]
    exact ⟨fun hx => ⟨h x hx, hx⟩, fun hx => hx.2⟩
end Go.Proofs.YtkppcgimhnocdabGreatDoor
/- The names that selectors begin with are told once each, in order: memory and plain facts. -/
namespace Go.Proofs.YtkppcgimhnocdabGreatDoor
open Go.RowKit

theorem conv_two (W : World) (k : Nat) (h : k ≤ 7) : (convert 44 9 (.slice (some ⟨W.heap.size, 0, none⟩) 2 2)).run Tryz.prog (W.alloc (.cells #[.int .u8 109, .int .u8 (97 + (k : Int))] 5)) = .ok (tx (mN k)) (W.alloc (.cells #[.int .u8 109, .int .u8 (97 + (k : Int))] 5)) := by
  refine run_convert_bytes_back (P := Tryz.prog) (W.alloc (.cells #[.int .u8 109, .int .u8 (97 + (k : Int))] 5)) 44 9 5 ⟨W.heap.size, 0, none⟩ 2 (mN k) Tryz.underlying44 Tryz.underlying5 Tryz.underlying9 (fun j hj => ?_)
  have hj : j < 2 := by simpa [mN] using hj
  have e : (UInt8.ofNat (97 + k)).toNat = 97 + k := by
    rw [UInt8.toNat_ofNat']
    omega
  rw [Lib.add_plain, cell_at (heap_new W _)]
  match j, hj with
  | 0, _ => rfl
  | 1, _ =>
    show some (Value.int .u8 (97 + (k : Int))) = some (.int .u8 ((UInt8.ofNat (97 + k)).toNat : Int))
    rw [e]
    congr 2
def cdM (b : UInt8) : Nat × Nat := (b.toNat / 8 % 3, b.toNat % 8)
def rvM (l : List UInt8) (j : Nat) : List (Nat × Nat) := ((l.take j).map cdM).reverse
def ksM (l : List UInt8) (j : Nat) : List Nat := ((l.take j).map cdM).flatMap mQ
theorem rvM_step (l : List UInt8) {j : Nat} (h : j < l.length) : rvM l (j + 1) = cdM (l.getD j 0) :: rvM l j := by
  unfold rvM
  rw [List.take_succ_eq_append_getElem h, List.map_append, List.reverse_append, List.getD, List.getElem?_eq_getElem h]
  rfl
theorem ksM_step (l : List UInt8) {j : Nat} (h : j < l.length) : ksM l (j + 1) = ksM l j ++ mQ (cdM (l.getD j 0)) := by
  unfold ksM
  rw [List.take_succ_eq_append_getElem h, List.map_append, List.flatMap_append, List.getD, List.getElem?_eq_getElem h]
  simp
theorem rvM_fit (l : List UInt8) (j : Nat) : Fit2 (rvM l j) := by
  intro c hc
  unfold rvM at hc
  rw [List.mem_reverse] at hc
  obtain ⟨b, _, rfl⟩ := List.mem_map.1 hc
  unfold cdM
  exact ⟨by show b.toNat / 8 % 3 ≤ 2; omega, by show b.toNat % 8 ≤ 7; omega⟩
theorem rvM_len (l : List UInt8) (j : Nat) : (rvM l j).length ≤ j := by
  unfold rvM
  simp
  omega
theorem ksM_fit (l : List UInt8) (j : Nat) : ∀ k ∈ ksM l j, k < 8 := by
  intro k hk
  unfold ksM at hk
  obtain ⟨c, hc, hk⟩ := List.mem_flatMap.1 hk
  obtain ⟨b, _, rfl⟩ := List.mem_map.1 hc
  unfold mQ at hk
  split at hk
  · simp at hk
  · simp at hk
    subst hk
    show b.toNat % 8 < 8
    omega
theorem met_names (l : List UInt8) (j : Nat) (hj : j ≤ 20) : psE (mT (rvM l j)) = 0 ∧ mets (psX (mT (rvM l j))) = ((List.range 8).filter fun k => decide (k ∈ ksM l j)).map mN ∧ (metE (psX (mT (rvM l j)))).length ≤ 100000 := by
  have hl := rvM_len l j
  obtain ⟨h1, h2⟩ := mT_read (rvM_fit l j) (by omega)
  have h3 : metE (psX (mT (rvM l j))) = (ksM l j).map mN := by
    rw [h2]
    unfold rvM ksM
    rw [List.reverse_reverse, List.map_flatMap]
    congr 1
    funext c
    unfold mQ
    split <;> rfl
  refine ⟨h1, ?_, ?_⟩
  · unfold mets
    rw [h3]
    exact mets_of _ (ksM_fit l j)
  · have : ∀ m : List (Nat × Nat), (m.flatMap mQ).length ≤ m.length := by
      intro m
      induction m with
      | nil => simp
      | cons c m ih =>
        rw [List.flatMap_cons, List.length_append, List.length_cons]
        have : (mQ c).length ≤ 1 := by unfold mQ; split <;> simp
        omega
    have := this ((l.take j).map cdM)
    rw [h3, List.length_map]
    unfold ksM
    simp at this ⊢
    omega
/-- Which of the eight are in. -/
def fB (L : List Nat) (k : Nat) : Bool := decide (k ∈ L)
def fA (L : List Nat) : Array Value := #[.bool (fB L 0), .bool (fB L 1), .bool (fB L 2), .bool (fB L 3), .bool (fB L 4), .bool (fB L 5), .bool (fB L 6), .bool (fB L 7)]
theorem fA_at (L : List Nat) : ∀ k, k < 8 → (fA L)[k]? = some (.bool (fB L k))
  | 0, _ => rfl
  | 1, _ => rfl
  | 2, _ => rfl
  | 3, _ => rfl
  | 4, _ => rfl
  | 5, _ => rfl
  | 6, _ => rfl
  | 7, _ => rfl
  | k + 8, h => by omega
theorem fB_app (L : List Nat) (k m : Nat) : fB (L ++ [k]) m = (fB L m || decide (m = k)) := by
  unfold fB
  simp
theorem fA_set (L : List Nat) : ∀ k, k < 8 → (fA L).setIfInBounds k (.bool true) = fA (L ++ [k])
  | 0, _ => by simp [fA, fB_app]
  | 1, _ => by simp [fA, fB_app]
  | 2, _ => by simp [fA, fB_app]
  | 3, _ => by simp [fA, fB_app]
  | 4, _ => by simp [fA, fB_app]
  | 5, _ => by simp [fA, fB_app]
  | 6, _ => by simp [fA, fB_app]
  | 7, _ => by simp [fA, fB_app]
  | k + 8, h => by omega
theorem fil_at (p : Nat → Bool) : ∀ (n m : Nat), m < n → p m = true → ((List.range n).filter p)[((List.range m).filter p).length]? = some m
  | 0, m, h, _ => by omega
  | n + 1, m, h, hp => by
    rw [List.range_succ, List.filter_append]
    by_cases e : m = n
    · subst e
      rw [List.getElem?_append_right (Nat.le_refl _)]
      simp [hp]
    · have ih := fil_at p n m (by omega) hp
      rw [List.getElem?_append_left (List.getElem?_eq_some_iff.1 ih).1]
      exact ih
theorem fil_step (p : Nat → Bool) (m : Nat) : ((List.range (m + 1)).filter p).length = ((List.range m).filter p).length + (if p m = true then 1 else 0) := by
  rw [List.range_succ, List.filter_append, List.length_append]
  congr 1
  cases h : p m <;> simp [h]
theorem fil_le (p : Nat → Bool) {m n : Nat} (h : m ≤ n) : ((List.range m).filter p).length ≤ ((List.range n).filter p).length := by
  induction n with
  | zero =>
    obtain rfl : m = 0 := by omega
    exact Nat.le_refl _
  | succ n ih =>
    by_cases e : m = n + 1
    · rw [e]; exact Nat.le_refl _
    · have := ih (by omega)
      rw [fil_step]
      omega
theorem u8w (x : Int) (h0 : 0 ≤ x) (h1 : x ≤ 255) : IntKind.u8.wrap x = x := by
  simp [IntKind.wrap, IntKind.signed, IntKind.bits]
  omega
end Go.Proofs.YtkppcgimhnocdabGreatDoor
/- The names that selectors begin with are told once each, in order. -/
namespace Go.Proofs.YtkppcgimhnocdabGreatDoor
open Go.RowKit

set_option maxHeartbeats 16000000 in
set_option maxRecDepth 20000 in
theorem metricsL_any (ta : Option Addr) (n c : Nat) (l : List UInt8) (w : World) (hn : n ≤ 9223372036854775807) (h : Ns w ta n l) (he : Ev w) : Calls Tryz.prog 6 #[.slice ta n c] w fun e w' => e = .returned (.bool true) ∧ Below w.heap.size w w' := by
  have hkn := known_any w he
  obtain ⟨hl0, hcs⟩ := h
  have HL : Hid (l.length = n) := hl0
  clear hl0
  by_cases h20 : n ≤ 20
  · have h20' : ¬ (20 : Int) < n := by omega
    have HT : Hid (∀ j, j ≤ n → (mT (rvM l j)).length ≤ 510) := fun j hj => by
      have := mT_len (rvM l j)
      have := rvM_len l j
      omega
    go_enter Tryz.func6, Tryz.ntmps6
    go_wp2_with fail
    refine hkn.mono ?_
    rintro e w1 ⟨rfl, b1⟩
    have q0 := heap_new w1 (.cells (fA []) 45)
    have B0 := bal b1 (.cells (fA []) 45)
    have z1 := b1.size
    have zz := size_le w1 (.cells (fA []) 45)
    go_upto_region 7 with fail
    have ealloc : (w1.alloc (.cells #[.bool false, .bool false, .bool false, .bool false, .bool false, .bool false, .bool false, .bool false] 45)) = w1.alloc (.cells (fA []) 45) := rfl
    rw [ealloc]
    generalize w1.alloc (.cells (fA []) 45) = w2 at *
    clear ealloc
    go_wp2_with fail
    go_loopw [3, 5] (fun t i wr => ∃ j : Nat, j ≤ n ∧ t = tx (mT (rvM l j)) ∧ i = .int .i64 j ∧ wr.heap[w1.heap.size]? = some (.cells (fA (ksM l j)) 45) ∧ Below w.heap.size w wr) (fun _ i _ => n - (intOf i).toNat)
    case atStart => exact ⟨0, by omega, rfl, rfl, q0, B0⟩
    case round =>
      clear q0 B0 zz hkn
      obtain ⟨j, hj, rfl, rfl, qF, B⟩ := hrel
      have hR := HT.out j hj
      have hlt1 := lt_of_heap qF
      by_cases hlt : j < n
      · have hlt' : (j : Int) < n := by omega
        obtain ⟨b, off, rfl, hc⟩ := hcs (by omega)
        have c0 := hc j hlt
        have c1 := (B.cell (World.block_lt_of_cell? _ _ c0)).trans c0
        have HS : Hid (rvM l (j + 1) = cdM (l.getD j 0) :: rvM l j) := rvM_step l (by rw [HL.out]; exact hlt)
        have HKS : Hid (ksM l (j + 1) = ksM l j ++ mQ (cdM (l.getD j 0))) := ksM_step l (by rw [HL.out]; exact hlt)
        clear hc c0
        obtain ⟨v, HV⟩ : ∃ v : Nat, Hid ((l.getD j 0).toNat = v) := ⟨_, rfl⟩
        have hv := (l.getD j 0).toNat_lt
        rw [HV.out] at c1 hv
        have c1a : wr.cell? ⟨b, off + j + 0, none⟩ = some (.int .u8 v) := c1
        clear c1a
        obtain ⟨k, HK⟩ : ∃ k : Nat, Hid (v % 8 = k) := ⟨_, rfl⟩
        obtain ⟨d, HD⟩ : ∃ d : Nat, Hid (v / 8 = d) := ⟨_, rfl⟩
        have hk : (v : Int) % 8 = (k : Int) := by have := HK.out; omega
        have hd : (v : Int) / 8 = (d : Int) := by have := HD.out; omega
        have hk7 : k ≤ 7 := by have := HK.out; omega
        have hcv := conv_two wr k hk7
        obtain ⟨R, HR⟩ : ∃ R : Str, Hid (mT (rvM l j) = R) := ⟨_, rfl⟩
        rw [HR.out] at hR ⊢
        have HCG : ∀ g, d % 3 = g → Hid (cdM (l.getD j 0) = (g, k)) := fun g hg => by
          show _ = _
          unfold cdM
          rw [HV.out, HD.out, HK.out, hg]
        rcases (by omega : d % 3 = 0 ∨ d % 3 = 1 ∨ d % 3 = 2) with hg | hg | hg
        · have HCD := HCG 0 hg
          have hg' : (d : Int) % 3 = 0 := by omega
          clear HCG hg HV HK HD
          have HX : Hid (mT (rvM l (j + 1)) = R ++ 32 :: (43 :: 32 :: mX 0 k)) := by show _ = _; rw [HS.out, mT, HR.out, HCD.out]
          have HF : Hid (ksM l (j + 1) = ksM l j ++ [k]) := by show _ = _; rw [HKS.out, HCD.out]; rfl
          clear HS HKS HCD
          have qa := below_heap (bal (Below.refl wr.heap.size wr) (.cells #[.int .u8 109, .int .u8 (97 + (k : Int))] 5)) qF
          have Ba := bal B (.cells #[.int .u8 109, .int .u8 (97 + (k : Int))] 5)
          have c3 := ((bal (Below.refl wr.heap.size wr) (.cells #[.int .u8 109, .int .u8 (97 + (k : Int))] 5)).cell (World.block_lt_of_cell? _ _ c1)).trans c1
          go_upto_region 12 with fail
          generalize wr.alloc (.cells #[.int .u8 109, .int .u8 (97 + (k : Int))] 5) = w3 at *
          clear hcv
          simp only [hk]
          obtain ⟨S, HS2⟩ : ∃ S : Str, Hid (mN k = S) := ⟨_, rfl⟩
          have hS : S.length ≤ 2 := by rw [← HS2.out]; simp [mN]
          rw [HS2.out]
          go_wp2_with (first | (refine wp_add rfl 9 9 _ _ rfl _ _ rfl rfl (by simp <;> omega) ?_) | (refine wp_st rfl 4 _ _ rfl w1.heap.size k (.bool true) rfl rfl (fA (ksM l j)) 45 qa (by simp [fA]; omega) inf4 rfl (fA (ksM l j ++ [k])) (fA_set _ k (by omega)) ?_; intro w4 q4 o4 z4; clear z4))
          have B4 := ((Off.of Ba [w1.heap.size]).then o4).below (by simp; omega)
          go_roundw
          case rel => exact ⟨j + 1, by omega, by rw [HX.out, ← HS2.out]; simp [mX], by go_num, by rw [HF.out]; exact q4, B4⟩
          case measure => simp [intOf]; omega
        · have HCD := HCG 1 hg
          have hg' : (d : Int) % 3 = 1 := by omega
          clear HCG hg HV HK HD
          have HX : Hid (mT (rvM l (j + 1)) = R ++ 32 :: (43 :: 32 :: mX 1 k)) := by show _ = _; rw [HS.out, mT, HR.out, HCD.out]
          have HF : Hid (ksM l (j + 1) = ksM l j ++ [k]) := by show _ = _; rw [HKS.out, HCD.out]; rfl
          clear HS HKS HCD
          have qa := below_heap (bal (Below.refl wr.heap.size wr) (.cells #[.int .u8 109, .int .u8 (97 + (k : Int))] 5)) qF
          have Ba := bal B (.cells #[.int .u8 109, .int .u8 (97 + (k : Int))] 5)
          have c3 := ((bal (Below.refl wr.heap.size wr) (.cells #[.int .u8 109, .int .u8 (97 + (k : Int))] 5)).cell (World.block_lt_of_cell? _ _ c1)).trans c1
          go_upto_region 12 with fail
          generalize wr.alloc (.cells #[.int .u8 109, .int .u8 (97 + (k : Int))] 5) = w3 at *
          clear hcv
          simp only [hk]
          obtain ⟨S, HS2⟩ : ∃ S : Str, Hid (mN k = S) := ⟨_, rfl⟩
          have hS : S.length ≤ 2 := by rw [← HS2.out]; simp [mN]
          rw [HS2.out]
          go_wp2_with (first | (refine wp_add rfl 9 9 _ _ rfl _ _ rfl rfl (by simp <;> omega) ?_) | (refine wp_st rfl 4 _ _ rfl w1.heap.size k (.bool true) rfl rfl (fA (ksM l j)) 45 qa (by simp [fA]; omega) inf4 rfl (fA (ksM l j ++ [k])) (fA_set _ k (by omega)) ?_; intro w4 q4 o4 z4; clear z4))
          have B4 := ((Off.of Ba [w1.heap.size]).then o4).below (by simp; omega)
          go_roundw
          case rel => exact ⟨j + 1, by omega, by rw [HX.out, ← HS2.out]; simp [mX], by go_num, by rw [HF.out]; exact q4, B4⟩
          case measure => simp [intOf]; omega
        · have HCD := HCG 2 hg
          have hg' : (d : Int) % 3 = 2 := by omega
          clear HCG hg HV HK HD
          have HX : Hid (mT (rvM l (j + 1)) = R ++ 32 :: (43 :: 32 :: mX 2 k)) := by show _ = _; rw [HS.out, mT, HR.out, HCD.out]
          have HF : Hid (ksM l (j + 1) = ksM l j) := by show _ = _; rw [HKS.out, HCD.out]; simp [mQ]
          clear HS HKS HCD
          have qa := below_heap (bal (Below.refl wr.heap.size wr) (.cells #[.int .u8 109, .int .u8 (97 + (k : Int))] 5)) qF
          have Ba := bal B (.cells #[.int .u8 109, .int .u8 (97 + (k : Int))] 5)
          have c3 := ((bal (Below.refl wr.heap.size wr) (.cells #[.int .u8 109, .int .u8 (97 + (k : Int))] 5)).cell (World.block_lt_of_cell? _ _ c1)).trans c1
          go_upto_region 12 with fail
          generalize wr.alloc (.cells #[.int .u8 109, .int .u8 (97 + (k : Int))] 5) = w3 at *
          clear hcv
          simp only [hk]
          obtain ⟨S, HS2⟩ : ∃ S : Str, Hid (mN k = S) := ⟨_, rfl⟩
          have hS : S.length ≤ 2 := by rw [← HS2.out]; simp [mN]
          rw [HS2.out]
          go_wp2_with (refine wp_add rfl 9 9 _ _ rfl _ _ rfl rfl (by simp <;> omega) ?_)
          go_roundw
          case rel => exact ⟨j + 1, by omega, by rw [HX.out, ← HS2.out]; simp [mX], by go_num, by rw [HF.out]; exact qa, Ba⟩
          case measure => simp [intOf]; omega
      · have hlt' : ¬ (j : Int) < n := by omega
        obtain ⟨hp0, hmt, hml⟩ := met_names l j (by omega)
        have hps := parse_any (mT (rvM l j)) wr (by omega) (he.later B)
        have hsm := (smB_ok _ (ps_fine (mT (rvM l j))).1).1
        have hme := fun P W cs (hT : TrP P W (psX (mT (rvM l j))) cs) => metrics_any hT hsm hml
        simp only [hmt] at hme
        rw [hp0] at hps
        have HG : Hid (∀ m, m < 8 → fB (ksM l j) m = true → (((List.range 8).filter (fB (ksM l j))).map mN)[((List.range m).filter (fB (ksM l j))).length]? = some (mN m)) := fun m hm hp => by rw [List.getElem?_map, fil_at _ 8 m hm hp]; rfl
        obtain ⟨G, HGE⟩ : ∃ G, Hid (((List.range 8).filter (fB (ksM l j))).map mN = G) := ⟨_, rfl⟩
        have HGL : Hid (G.length = ((List.range 8).filter (fB (ksM l j))).length) := by show _ = _; rw [← HGE.out, List.length_map]
        have hfun : (fun k => decide (k ∈ ksM l j)) = fB (ksM l j) := rfl
        rw [hfun] at hme
        rw [HGE.out] at hme HG
        clear hfun HGE hmt hml hp0 hsm HT hcs HL
        obtain ⟨L, HLL⟩ : ∃ L, Hid (ksM l j = L) := ⟨_, rfl⟩
        rw [HLL.out] at qF HG HGL
        obtain ⟨R, HR⟩ : ∃ R : Str, Hid (mT (rvM l j) = R) := ⟨_, rfl⟩
        rw [HR.out] at hps hme ⊢
        clear HLL HR hR hj hlt
        generalize psX R = X at *
        generalize psA R = pa at *
        go_wp2_with fail
        refine hps.mono ?_
        rintro e w5 ⟨cs, rfl, t5, b5⟩
        have row := t5.row
        have q5 := heap_new w5 (.cells zE 32)
        have B5 := B.trans (b5.mono B.size)
        have zB := B5.size
        have zb := b5.size
        have qF5 := below_heap b5 qF
        have Ba := bal B5 (.cells zE 32)
        have qFa := below_heap (bal (Below.refl w5.heap.size w5) (.cells zE 32)) qF5
        have T5 : Hid _ := t5
        clear hps
        go_upto_region 21 with (refine wp_put rfl 32 _ _ rfl w5.heap.size cs rfl rfl _ 32 q5 13 inf29 rfl row ?_; intro w6 q6 o6 z6; clear z6)
        have B6 := ((Off.of Ba []).trans o6 (by simp <;> omega)).below (by simp)
        have D6 : Below w5.heap.size w5 w6 := ((Off.of (bal (Below.refl w5.heap.size w5) (.cells zE 32)) []).trans o6 (by simp)).below (by simp)
        have qF6 := below_heap D6 qF5
        go_wp2_with (refine wp_get rfl 32 _ rfl w5.heap.size cs 32 rfl q6 _ Tryz.underlying32 rfl 13 inf29 row.1 ?_)
        refine (hme _ w6 _ (TrP.later T5.out D6)).mono ?_
        rintro e w7 ⟨v7, rfl, s7, b7⟩
        have B7 := B6.trans (b7.mono B6.size)
        have qF7 := below_heap b7 qF6
        have S7 : Hid _ := s7
        obtain ⟨ga, gc, rfl, _⟩ := s7
        obtain ⟨gn, HGN⟩ : ∃ gn : Nat, Hid (G.length = gn) := ⟨_, rfl⟩
        have ST : Hid (SlP (fun b => w6.heap.size ≤ b) w7 (.slice ga gn gc) G.length (G.map tx)) := by have := S7.out; rw [HGN.out] at this ⊢; exact this
        rw [HGN.out]
        clear S7 hme T5 qF qF5 qF6 qFa Ba o6 q5 q6
        go_wp2_with fail
        go_loopw [12, 13] (fun a i wr => ∃ m : Nat, m ≤ 8 ∧ a = .int .i64 ((List.range m).filter (fB L)).length ∧ i = .int .i64 m ∧ Below w7.heap.size w7 wr) (fun _ i _ => 8 - (intOf i).toNat)
        case atStart => exact ⟨0, by omega, rfl, rfl, Below.refl _ _⟩
        case round =>
          obtain ⟨m, hm, rfl, rfl, C⟩ := hrel
          have BC := B7.trans (C.mono B7.size)
          have HST : Hid (((List.range (m + 1)).filter (fB L)).length = ((List.range m).filter (fB L)).length + (if fB L m = true then 1 else 0)) := fil_step _ m
          have hle : Hid (((List.range m).filter (fB L)).length ≤ ((List.range 8).filter (fB L)).length) := fil_le _ hm
          have hcnt : ((List.range m).filter (fB L)).length ≤ 8 := by have := List.length_filter_le (fB L) (List.range m); rw [List.length_range] at this; omega
          by_cases hlt : m < 8
          · have hlt' : (m : Int) < 8 := by omega
            have cm := (cell_at (below_heap C qF7) m).trans (fA_at L m hlt)
            cases hp : fB L m with
            | false =>
              rw [hp] at cm HST
              have HST2 : Hid (((List.range (m + 1)).filter (fB L)).length = ((List.range m).filter (fB L)).length) := HST
              clear HST HG
              obtain ⟨a, HA⟩ : ∃ a : Nat, Hid (((List.range m).filter (fB L)).length = a) := ⟨_, rfl⟩
              rw [HA.out] at hcnt ⊢
              go_wp2_with fail
              go_roundw
              case rel => exact ⟨m + 1, by omega, by rw [HST2.out, HA.out], by go_num, C⟩
              case measure => simp [intOf]; omega
            | true =>
              have hg1 := HG.out m hlt hp
              rw [hp] at cm HST
              have HST2 : Hid (((List.range (m + 1)).filter (fB L)).length = ((List.range m).filter (fB L)).length + 1) := HST
              clear HST HG hp
              obtain ⟨a, HA⟩ : ∃ a : Nat, Hid (((List.range m).filter (fB L)).length = a) := ⟨_, rfl⟩
              rw [HA.out] at hcnt hg1 HST2 ⊢
              have hag : a < gn := by rw [← HGN.out]; exact (List.getElem?_eq_some_iff.1 hg1).1
              have hag' : ¬ (a : Int) ≥ gn := by omega
              obtain ⟨gb, go, rfl, gcell⟩ := (SlP.strs ST.out).2.2 a hag
              have eg : G.getD a [] = mN m := by rw [List.getD, hg1]; rfl
              rw [eg] at gcell
              clear eg hg1 ST
              go_upto_region 27 with fail
              refine wp_region_noPanic ?_
              refine wp_region_held_drew (S := fun W => Below w7.heap.size w7 W) (by kernel_rfl) ?_ (fun _ => ?_)
              · exact C.trans (drew_below wr |>.mono C.size)
              have C0 : Below w7.heap.size w7 wr.drew := C.trans ((drew_below wr).mono C.size)
              generalize wr.drew = w8 at *
              refine take_at 0 (some 78) (.int .i64 a) rfl rfl (by kernel_rfl) (by kernel_rfl) (by kernel_rfl) (fun _ _ _ h => h) (by rfl) (fun W hSw => by go_simp) C0 ?_
              simp only [Act.put, List.setIfInBounds_toArray, List.set_cons_zero, List.set_cons_succ]
              refine take_at 1 (some 79) (.slice (some ⟨gb, go, none⟩) gn gc) rfl rfl (by kernel_rfl) (by kernel_rfl) (by kernel_rfl) (fun _ _ _ h => h) (by rfl) (fun W hSw => by go_simp) C0 ?_
              simp only [Act.put, List.setIfInBounds_toArray, List.set_cons_zero, List.set_cons_succ]
              refine take_at 2 (some 80) (.int .i64 gn) rfl rfl (by kernel_rfl) (by kernel_rfl) (by kernel_rfl) (fun _ _ _ h => h) (by rfl) (fun W hSw => by go_simp) C0 ?_
              simp only [Act.put, List.setIfInBounds_toArray, List.set_cons_zero, List.set_cons_succ]
              refine take_at 3 (some 81) (.bool false) rfl rfl (by kernel_rfl) (by kernel_rfl) (by kernel_rfl) (fun _ _ _ h => h) (by rfl) (fun W hSw => by go_simp) C0 ?_
              simp only [Act.put, List.setIfInBounds_toArray, List.set_cons_zero, List.set_cons_succ]
              refine take_at 4 (some 82) (.bool false) rfl rfl (by kernel_rfl) (by kernel_rfl) (by kernel_rfl) (fun _ _ _ h => h) (by rfl) (fun W hSw => by go_simp) C0 ?_
              simp only [Act.put, List.setIfInBounds_toArray, List.set_cons_zero, List.set_cons_succ]
              refine take_at 5 (some 83) (.slice (some ⟨gb, go, none⟩) gn gc) rfl rfl (by kernel_rfl) (by kernel_rfl) (by kernel_rfl) (fun _ _ _ h => h) (by rfl) (fun W hSw => by go_simp) C0 ?_
              simp only [Act.put, List.setIfInBounds_toArray, List.set_cons_zero, List.set_cons_succ]
              refine take_at 6 (some 84) (.int .i64 a) rfl rfl (by kernel_rfl) (by kernel_rfl) (by kernel_rfl) (fun _ _ _ h => h) (by rfl) (fun W hSw => by go_simp) C0 ?_
              simp only [Act.put, List.setIfInBounds_toArray, List.set_cons_zero, List.set_cons_succ]
              refine take_at 7 (some 85) (.pointer (some ⟨gb, go + a, none⟩)) rfl rfl (by kernel_rfl) (by kernel_rfl) (by kernel_rfl) (fun _ _ _ h => h) (by rfl) (fun W hSw => by go_simp) C0 ?_
              simp only [Act.put, List.setIfInBounds_toArray, List.set_cons_zero, List.set_cons_succ]
              refine take_at 8 (some 86) (tx (mN m)) rfl rfl (by kernel_rfl) (by kernel_rfl) (by kernel_rfl) (fun _ _ _ h => h) (by rfl) (fun W hSw => by (have hk := (hSw.cell (World.block_lt_of_cell? _ _ gcell)).trans gcell; go_simp)) C0 ?_
              simp only [Act.put, List.setIfInBounds_toArray, List.set_cons_zero, List.set_cons_succ]
              refine take_at 9 (some 87) (.int .i64 m) rfl rfl (by kernel_rfl) (by kernel_rfl) (by kernel_rfl) (fun _ _ _ h => h) (by rfl) (fun W hSw => by go_simp) C0 ?_
              simp only [Act.put, List.setIfInBounds_toArray, List.set_cons_zero, List.set_cons_succ]
              refine take_at 10 (some 88) (.int .u8 m) rfl rfl (by kernel_rfl) (by kernel_rfl) (by kernel_rfl) (fun _ _ _ h => h) (by rfl) (fun W hSw => by go_simp; exact u8w _ (by omega) (by omega)) C0 ?_
              simp only [Act.put, List.setIfInBounds_toArray, List.set_cons_zero, List.set_cons_succ]
              refine take_at 11 (some 89) (.int .u8 (97 + (m : Int))) rfl rfl (by kernel_rfl) (by kernel_rfl) (by kernel_rfl) (fun _ _ _ h => h) (by rfl) (fun W hSw => by go_simp; exact u8w _ (by omega) (by omega)) C0 ?_
              simp only [Act.put, List.setIfInBounds_toArray, List.set_cons_zero, List.set_cons_succ]
              refine wpAnyH_ready (rs := [12]) (by kernel_rfl) (by simp) ?_
              refine AllReadyH.cons rfl (fun K hK => ?_) AllReadyH.nil
              go_simp
              have hcv := conv_two w8 m (by omega)
              have C1 : Below w7.heap.size w7 (w8.alloc (.cells #[.int .u8 109, .int .u8 (97 + (m : Int))] 5)) := bal C0 _
              have em : w8.heap.size = w8.heap.size := rfl
              clear em
              refine hK.out _ _ ?_ (fun _ => ?_)
              · exact C1
              clear hK K
              refine wpAnyH_ready (rs := [13]) (by kernel_rfl) (by simp) ?_
              refine AllReadyH.cons rfl (fun K hK => ?_) AllReadyH.nil
              go_simp
              generalize w8.alloc (.cells #[.int .u8 109, .int .u8 (97 + (m : Int))] 5) = w9 at *
              clear hcv
              refine hK.out _ _ ?_ (fun _ => ?_)
              · exact C1
              clear hK K
              refine take_at 14 (some 92) (.bool false) rfl rfl (by kernel_rfl) (by kernel_rfl) (by kernel_rfl) (fun _ _ _ h => h) (by rfl) (fun W hSw => by go_simp) C1 ?_
              simp only [Act.put, List.setIfInBounds_toArray, List.set_cons_zero, List.set_cons_succ]
              refine take_at 15 (some 93) (.bool false) rfl rfl (by kernel_rfl) (by kernel_rfl) (by kernel_rfl) (fun _ _ _ h => h) (by rfl) (fun W hSw => by go_simp) C1 ?_
              simp only [Act.put, List.setIfInBounds_toArray, List.set_cons_zero, List.set_cons_succ]
              refine wpAnyH_done (by kernel_rfl) ?_ _
              refine NoPanic.normal ?_
              have C2 := C1
              go_wp2_with fail
              go_roundw
              case rel => exact ⟨m + 1, by omega, by rw [HST2.out]; go_num, by go_num, C2⟩
              case measure => simp [intOf]; omega
          · have hlt' : ¬ (m : Int) < 8 := by omega
            obtain rfl : m = 8 := by omega
            have hfin : ((((List.range 8).filter (fB L)).length : Nat) : Int) = gn := by have := HGL.out; rw [HGN.out] at this; omega
            have HFI : Hid _ := hfin
            clear hfin HG HST hle hcnt ST
            obtain ⟨a, HA⟩ : ∃ a : Int, Hid (((((List.range 8).filter (fB L)).length : Nat) : Int) = a) := ⟨_, rfl⟩
            have hae : a = gn := by rw [← HA.out]; exact HFI.out
            rw [HA.out]
            subst hae
            go_wp2_with fail
            go_ret
            exact ⟨by simp, BC⟩
  · have h20' : (20 : Int) < n := by omega
    go_enter Tryz.func6, Tryz.ntmps6
    go_wp2_with fail
    refine hkn.mono ?_
    rintro e w1 ⟨rfl, b1⟩
    go_wp2_with fail
    go_ret
    exact ⟨rfl, b1⟩
end Go.Proofs.YtkppcgimhnocdabGreatDoor
/- ExprMetrics: for every input the law returns true, and its arguments read as they did: the row, and its card, tied to the program's text. Conditions: none beyond the card's own. -/
namespace Go.Proofs.YtkppcgimhnocdabGreatDoor.exprMetricsRow
open Go.ChangeShapes Go.WideShapes Go.ChangeAt Go.RowKit Go.Joins Go.ChangeMaps

theorem own : ownKnob Tryz.prog.godebug = none := by kernel_rfl
set_option maxRecDepth 100000 in
theorem lifted (os : Os) (started : os.Started) (H : Type) (enc : TypeId × Value → H) :
    ReturnsInHanded {} Tryz.checked os 6 .any (fun w args => (Rows.exprMetricsSpec.pre enc Tryz.prog Tryz.f6 Rows.exprMetricsRow.domain false w args ∧ laidMetH Tryz.prog Rows.exprMetricsRow.laid w) ∧ sizedMet enc Tryz.prog Tryz.f6 (OpenSpec.ofChange Rows.exprMetricsSpec) false w args)
      (Rows.exprMetricsSpec.post enc Tryz.prog Tryz.f6 false true false false) := by
  refine lift_env (fun _ _ _ hh h => h.of_heap hh) (C := Tryz.checked) (X := fun w _ => laidMetH Tryz.prog Rows.exprMetricsRow.laid w) own started (by kernel_rfl) Tryz.func6
    (ChangeSpec.witness_shaped (enc := enc) (C := Tryz.checked) (os := os) (X := fun w _ => laidMetH Tryz.prog Rows.exprMetricsRow.laid w) false (World.laidAll Tryz.prog os Rows.exprMetricsRow.laid) #[.slice none 0 0] 8 (World.laidAll_os _ _ _)
      (World.shaped_of_ZipB (by kernel_rfl) (by kernel_rfl)) (by kernel_rfl) (by kernel_rfl) (by kernel_rfl)
      (by rw [MakeChecks.laidMetH_plain _ _ _ (by kernel_rfl)]; exact laidMet_laidAll _ (by kernel_rfl) (by kernel_rfl))) ?_
  intro W base args ds gs before hval0 hW hsh hL
  have hval : ∀ (j : Nat) t v, Tryz.f6.params[j]? = some t → args[j]? = some v → Value.okWide Tryz.prog W .any base t v := hval0
  have hW' := hW
  obtain ⟨p, q, hA0, hV, rfl, hfz, hnd⟩ := hW
  have hA : DataW.TrodAll enc Tryz.prog W 0 (fun _ => true) true Tryz.f6.params.toList args.toList ds p := hA0
  rw [Tryz.params6] at hA hval
  obtain ⟨v0, vs0, d0, ds0, p0, q0, hargs, rfl, rfl, h0, r0⟩ := trodAll_cons hA
  obtain ⟨rfl, rfl, rfl⟩ := trodAll_nil r0
  obtain rfl : args = #[v0] := by cases args; simp_all
  obtain ⟨rfl, rfl⟩ := trodVars_none hV
  have k0 := h0
  have lt0 : ∀ x ∈ p0, x.block < W.heap.size := by obtain ⟨m, hm⟩ := k0; exact DataW.trod_lt m _ _ _ hm
  obtain ⟨xa0, len0, cap0, rfl⟩ := okWide_slice Tryz.underlying44 (hval 0 44 v0 rfl rfl)
  obtain ⟨l0, hs0, hm0⟩ := bytes_of h0
  clear hA0 hval0
  simp only [List.append_nil] at hW'
  refine (metricsL_any xa0 len0 cap0 l0 W hm0  hs0 (env_of hsh hL)).mono fun e W' ⟨he, hg⟩ => ?_
  subst he
  exact ⟨_, rfl, _, _, _, [], _, [], hW', trodAll_mk1 (shut_bool Tryz.underlying4 _), (trodAll_cons_mk (Below.trod laidOut (by kernel_rfl) (of_decide_eq_true (by kernel_rfl)) k0 hg lt0) trodAll_mk0), rfl, hg.frame _, fun h => by cases h⟩

theorem holds : Rows.ExprMetricsSaid :=
  OpenClaim.holds_of_wide 6 Tryz.f6 rfl rfl rfl rfl rfl rfl rfl ⟨rfl, rfl, rfl, rfl, rfl⟩ rfl rfl rfl rfl rfl (by kernel_rfl) Tryz.func6 (by kernel_rfl)
    (of_decide_eq_true (by kernel_rfl)) (by unfold Func.isWrapper; first | (rw [if_pos (by decide +kernel)]; kernel_rfl) | (rw [if_neg (by decide +kernel)]; exact ⟨rfl, rfl⟩))
    (fun os started H enc _ => lifted os started H enc)
end Go.Proofs.YtkppcgimhnocdabGreatDoor.exprMetricsRow
namespace Go.Proofs.YtkppcgimhnocdabGreatDoor
open Go
theorem exprMetrics_card : Rows.ExprMetricsCardSaid :=
  Claim7.holds_tied_plain_at .later [] [.data, .data, .data, .data, .sentinel, .sentinel, .pinned] true (true, "de27a6e6fe403ccb34f493b4989840ed7712091a63239ac79da314bb4edb8d8c") true exprMetricsRow.holds (fun _ h => by cases h) (by kernel_rfl) (fun _ h => by cases h) exprMetrics_row_tie rfl ⟨rfl, rfl⟩ (by kernel_rfl) rfl
    (fun f fn hf hfn => by
      obtain rfl : f = 6 := Option.some.inj ((show Tryz.prog.funcNamed "spillway/spillwaylaw8.ExprMetrics" = some 6 by kernel_rfl).symm.trans hf) |>.symm
      obtain rfl : fn = Tryz.f6 := (Option.some.inj (Tryz.func6.symm.trans hfn)).symm
      exact ⟨by kernel_rfl, fun j t ht => by
        rw [Tryz.params6] at ht
        have hm : t ∈ [44] := by simpa using Array.mem_of_getElem? ht
        have hall : ([44].all fun u => !Tryz.prog.wantsStandIn u) = true := by kernel_rfl
        exact (show Tryz.prog.wantsStandIn t = false by simpa using List.all_eq_true.1 hall t hm)⟩)
    (by kernel_rfl)
end Go.Proofs.YtkppcgimhnocdabGreatDoor
