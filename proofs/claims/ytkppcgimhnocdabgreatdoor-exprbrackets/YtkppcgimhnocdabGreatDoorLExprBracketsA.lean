/- ExprBrackets: for every input the law returns true, and its arguments read as they did: the row, and its card, tied to the program's text. Conditions: none beyond the card's own. -/
import Derived.Test.YtkppcgimhnocdabGreatDoorMB
import Derived.Test.YtkppcgimhnocdabGreatDoorRows
import Derived.ProofKit
import Derived.OpenShut
import Derived.LaidMore
import Derived.Lay
import Derived.SevenTiedAt
import Derived.Stop.Joined
import Derived.Lib.SmallJoins
import Derived.Lib.LaidTab
import Derived.Stop.LaidErr
import Derived.ChangeMaps5
import Derived.Deep.SlicePairs
import Derived.SliceStrings
import Derived.HandedShaped
import Derived.Shelf.Vars
import Derived.Test.YtkppcgimhnocdabGreatDoorMX
import Derived.Test.YtkppcgimhnocdabGreatDoorMO
import Derived.Test.YtkppcgimhnocdabGreatDoorMS
import Derived.Test.YtkppcgimhnocdabGreatDoorTie
import Derived.Test.YtkppcgimhnocdabGreatDoorCards
/- What is handed in: slices of texts, of bytes out of their readings; what the library's variables hold when a call begins. -/
namespace Go.Proofs.YtkppcgimhnocdabGreatDoor
open Go.ChangeShapes Go.WideShapes Go.ChangeAt Go.RowKit Go.Deep

theorem laidOut : laidOutB Tryz.prog = true := by kernel_rfl
theorem mx_of {W : World} (h : W.ShapedOpen Tryz.prog) : Mx W :=
  cell_of_shapedOpen_int (g := 3) (t := 3) (zero := #[.int .i64 0]) (k := .i64) h (of_decide_eq_true (by kernel_rfl)) (by kernel_rfl) rfl (by kernel_rfl) (by kernel_rfl) Tryz.underlying3
theorem tx_of (s : ByteArray) : ∃ l : Str, (⟨l.toArray⟩ : ByteArray) = s ∧ l.length = s.size := ⟨s.data.toList, Lib.mk_data s, by rw [Array.length_toList]; rfl⟩
def Ns (w : World) (ao : Option Addr) (n : Nat) (l : List UInt8) : Prop :=
  l.length = n ∧ (0 < n → ∃ b off, ao = some ⟨b, off, none⟩ ∧ ∀ j, j < n → w.cell? ⟨b, off + j, none⟩ = some (.int .u8 (l.getD j 0).toNat))
theorem bytes_of {H : Type} {enc : TypeId × Value → H} {W : World} {xa : Option Addr} {len cap : Nat} {x : DataW H × List MemPlace}
    (h : ∃ fuel, DataW.trod enc Tryz.prog W 0 (fun _ => true) true fuel 44 (Value.slice xa len cap).cells.toList = some x) :
    ∃ l, Ns W xa len l ∧ len ≤ 9223372036854775807 := by
  obtain ⟨fuel, hf⟩ := h
  rcases open_ints Tryz.underlying44 Tryz.underlying5 (by kernel_rfl) hf with ⟨hcs, hx⟩ | ⟨a, len', cap', zs, hcs, _, hl, hm, hlen, hx, hel, hw⟩
  · simp [Value.cells] at hcs
    obtain ⟨rfl, rfl, rfl⟩ := hcs
    exact ⟨[], ⟨rfl, fun h => by omega⟩, by omega⟩
  · simp [Value.cells] at hcs
    obtain ⟨rfl, rfl, rfl⟩ := hcs
    have hss : len ≤ zs.length := by rw [hlen]; split <;> omega
    refine ⟨(List.range len).map (fun i => UInt8.ofNat (zs.getD i 0).toNat), ⟨by simp, fun hp => ?_⟩, by unfold maxLen at hm; omega⟩
    obtain ⟨b, off, spot⟩ := a
    have hc := hel 0 (by omega)
    have hspot : spot = none := by simpa [Addr.add] using World.cell?_spot hc
    subst hspot
    refine ⟨b, off, rfl, fun j hj => ?_⟩
    have q0 := hel j (by omega)
    rw [Addr.add_lit] at q0
    rw [q0]
    have hm2 : zs.getD j 0 ∈ zs := by
      have hj2 : j < zs.length := by omega
      simp [List.getD, List.getElem?_eq_getElem hj2]
    have hwf := hw _ hm2
    have hb : 0 ≤ zs.getD j 0 ∧ zs.getD j 0 ≤ 255 := by simpa [Lit.wf, IntKind.min, IntKind.max, IntKind.signed, IntKind.bits] using hwf
    have e : ((List.range len).map (fun i => UInt8.ofNat (zs.getD i 0).toNat)).getD j 0 = UInt8.ofNat (zs.getD j 0).toNat := by simp [List.getD, hj]
    rw [e, UInt8.toNat_ofNat']
    congr 2
    omega
theorem lift_env {H : Type} {enc : TypeId × Value → H} {a : Assume} {C : Checked} {os : Os} {f : FuncId} {fn : Func} {s : ChangeSpec} {conds : List PathCond} {apart fresh handsOn again : Bool} {X : World → Array Value → Prop} (hX : ∀ w w' args, w.heap = w'.heap → X w args → X w' args)
    (own : ownKnob C.prog.godebug = none) (started : os.Started) (noInit : C.prog.inits.idxOf? f = none) (hfn : C.prog.funcs[f]? = some fn)
    (witness : ∃ (w : World) (tape : Tape) (i : Input), w.os = os ∧ (w.forCall tape i).Shaped C.prog ∧ i.vars = [] ∧ Input.okWide C.prog (w.forCall tape i) .any w.heap.size f i ∧
      ((s.pre enc C.prog fn conds apart (w.forCall tape i).memory i.args ∧ X (w.forCall tape i).memory i.args) ∧ sizedMet enc C.prog fn (OpenSpec.ofChange s) apart (w.forCall tape i).memory i.args) ∧ a.holds C.prog (lone (Frame.enter C.prog f i.args .normal) [] (w.forCall tape i)))
    (contract : ∀ (W : World) (base : Nat) (args : Array Value) (ds gs : List (DataW H)) (before : List MemPlace),
      (∀ (j : Nat) t v, fn.params[j]? = some t → args[j]? = some v → Value.okWide C.prog W .any base t v) →
      DataW.Whole enc C.prog fn.params.toList s.vars apart W args.toList ds gs before → W.ShapedOpen C.prog → X W args →
      Calls C.prog f args W fun e W' => ∃ v, e = .returned v ∧ s.post enc C.prog fn apart fresh handsOn again W args v W') :
    ReturnsInHanded a C os f .any (fun w args => (s.pre enc C.prog fn conds apart w args ∧ X w args) ∧ sizedMet enc C.prog fn (OpenSpec.ofChange s) apart w args) (s.post enc C.prog fn apart fresh handsOn again) := by
  refine returnsInHanded_of_calls own started noInit witness ?_
  intro w tape i _ hsh _ hok hpre _
  obtain ⟨_, _, _, fn', hfn', _, _, _, _, hval⟩ := hok
  have e : fn' = fn := Option.some.inj (hfn'.symm.trans hfn)
  subst e
  obtain ⟨⟨⟨ds, gs, before, hw, hc⟩, hx⟩, hz⟩ := hpre
  have hw' := DataW.Whole.of_heap (w' := w.forCall tape i) (by rfl) hw
  refine (contract (w.forCall tape i) w.heap.size i.args ds gs before hval hw' hsh (hX _ _ _ (by rfl) hx)).mono fun e W' ⟨v, he, hp⟩ => ?_
  subst he
  exact ChangeSpec.post_blind hp

/-! ### What the library's variables hold when a call begins -/
theorem gES : Tryz.prog.globalNamed "strconv.ErrSyntax" = some 4 := by kernel_rfl
theorem gER : Tryz.prog.globalNamed "strconv.ErrRange" = some 5 := by kernel_rfl
theorem tES : (Tryz.prog.globals[4]?).map (·.type) = some 124 := by kernel_rfl
theorem tER : (Tryz.prog.globals[5]?).map (·.type) = some 124 := by kernel_rfl
theorem c141 : Tryz.prog.cellsOf 209 = 1 := by kernel_rfl
theorem c9 : Tryz.prog.cellsOf 9 = 1 := by kernel_rfl
theorem starE : "*" ++ "errors.errorString" = "*errors.errorString" := by decide
theorem rowES (u : TypeId) (h : Tryz.prog.typeName? 3 u = some "*errors.errorString") : u = 207 :=
  typeName_ptr_named (nm := "errors.errorString") (by rw [starE]; kernel_rfl) (by kernel_rfl) (by decide) u (by rw [starE]; exact h)
theorem env_of {W : World} (hsh : W.ShapedOpen Tryz.prog) (h : laidMetH Tryz.prog Rows.exprCapsRow.laid W) : Ev W := by
  rw [MakeChecks.laidMetH_plain _ _ _ (by kernel_rfl)] at h
  have h2 := laidMet.tail (laidMet.tail h)
  have h4 := laidMet.tail (laidMet.tail h2)
  have h5 := laidMet.tail h4
  refine ⟨mx_of hsh, ?_, ?_, ?_⟩
  · obtain ⟨a0, s0, hv0, -, -, -⟩ := laid_sentinel h5 gES tES Tryz.underlying124 rowES Tryz.underlying207 Tryz.underlying209 rfl rfl Tryz.underlying9 c141 c9
    have h0 := World.var?_cell gES hv0 0
    exact ⟨_, by simpa using h0, Or.inr ⟨_, _, rfl⟩⟩
  · obtain ⟨a0, s0, hv0, -, -, -⟩ := laid_sentinel h4 gER tER Tryz.underlying124 rowES Tryz.underlying207 Tryz.underlying209 rfl rfl Tryz.underlying9 c141 c9
    have h0 := World.var?_cell gER hv0 0
    exact ⟨_, by simpa using h0, Or.inr ⟨_, _, rfl⟩⟩
  · exact Lib.tabIs_of_head (g := 2) (t := 189) (e := 24) (n := 20) (by kernel_rfl) (by kernel_rfl) Tryz.underlying189 Tryz.underlying24 (by kernel_rfl) (by kernel_rfl) h2
end Go.Proofs.YtkppcgimhnocdabGreatDoor
/- What can be said of all that the reader answers: plain facts. -/
namespace Go.Proofs.YtkppcgimhnocdabGreatDoor
open Go.RowKit

/-- A matcher that was read. -/
def MO (T : Tk → Prop) (x : Mt) : Prop := (∃ t, T t ∧ t.k = 1 ∧ x = ⟨nmL, 1, t.t⟩) ∨ ∃ a b c, T a ∧ T b ∧ T c ∧ a.k = 1 ∧ b.k = 5 ∧ mkd b.t ≠ 0 ∧ c.k = 4 ∧ x = ⟨a.t, mkd b.t, c.t⟩
/-- Names that were read, by one of two words, or none. -/
def GO (T : Tk → Prop) (b c : Bool) (ns : List Str) : Prop := (b = false ∧ c = false ∧ ns = []) ∨ (b ≠ c ∧ fewN ns = true ∧ ∀ n ∈ ns, ∃ t, T t ∧ t.k = 1 ∧ n = t.t)
structure RdOK (T : Tk → Prop) (X : Nat → Ex → Prop) : Prop where
  num : ∀ t, T t → t.k = 2 → X 1 (eNum t.p t.o t.n)
  sel : ∀ p m r, (∀ x ∈ m, MO T x) → m.length ≤ 8 → (r = 0 ∨ ∃ t, T t ∧ t.k = 3 ∧ r = t.d) → X 1 (eSel p m r)
  call : ∀ n t a, T t → t.k = 1 → isAggB t.t = false → isModB t.t = false → X n a → X (n + 1) (eCall t.p t.t a)
  agg : ∀ n t b1 b2 ns a, T t → isAggB t.t = true → GO T b1 b2 ns → X n a → X (n + 1) (eAgg t.p t.t b1 b2 ns a)
  bin : ∀ n m t b3 b4 ns a b, T t → t.k = 5 → 1 ≤ lv t.t → GO T b3 b4 ns → X n a → X m b → X (n + m + 1) (eBin t.p t.t b3 b4 ns a b)
  neg : ∀ n t a, T t → X n a → X (n + 1) (eNeg t.p a)
def All (T : Tk → Prop) (l : List Tk) : Prop := ∀ t ∈ l, T t
theorem All.tail {T : Tk → Prop} {l : List Tk} (h : All T l) : All T l.tail := fun t ht => h t (List.mem_of_mem_tail ht)
/-- What comes of so many signs. -/
def Oc {α : Type} (T : Tk → Prop) (E : Int → Prop) (A : Nat → α → Prop) (n : Nat) (a : Rs α) : Prop := (∀ er, a = .inl er → E er.1 ∧ (er.2 = 71 ∨ er.2 = 72 ∨ er.2 = 32)) ∧ ∀ x r, a = .inr (x, r) → ∃ k, A k x ∧ k + r.length ≤ n ∧ All T r
section
variable {T : Tk → Prop} {E : Int → Prop} {q : Int}
theorem Oc.good {α : Type} {A : Nat → α → Prop} {n k : Nat} {x : α} {r : List Tk} (h : A k x) (hn : k + r.length ≤ n) (hr : All T r) : Oc T E A n (.inr (x, r)) := by
  refine ⟨fun er h' => (by cases h'), fun y s h' => ?_⟩
  injection h' with h'
  injection h' with h1 h2
  subst h1 h2
  exact ⟨k, h, hn, hr⟩
theorem Oc.badly {α : Type} {A : Nat → α → Prop} {n : Nat} {p c : Int} (h : E p) (hc : c = 71 ∨ c = 72 ∨ c = 32) : Oc T E A n (.inl (p, c)) := by
  refine ⟨fun er h' => ?_, fun y s h' => by cases h'⟩
  injection h' with h'
  subst h'
  exact ⟨h, hc⟩
theorem Oc.mono {α : Type} {A : Nat → α → Prop} {n m : Nat} {a : Rs α} (h : Oc T E A n a) (hn : n ≤ m) : Oc T E A m a := ⟨h.1, fun x r hx => by
  obtain ⟨k, h1, h2, h3⟩ := h.2 x r hx
  exact ⟨k, h1, by omega, h3⟩⟩
theorem Oc.bnd {α β : Type} {A : Nat → α → Prop} {B : Nat → β → Prop} {n m : Nat} {a : Rs α} {f : α × List Tk → Rs β} (h : Oc T E A n a) (hk : ∀ x r k, A k x → k + r.length ≤ n → All T r → Oc T E B m (f (x, r))) : Oc T E B m (Go.Proofs.YtkppcgimhnocdabGreatDoor.bnd a f) := by
  cases ha : a with
  | inl er =>
    refine ⟨fun e h' => ?_, fun y s h' => by cases h'⟩
    injection h' with h'
    subst h'
    exact h.1 er ha
  | inr x =>
    obtain ⟨x, r⟩ := x
    obtain ⟨k, h1, h2, h3⟩ := h.2 x r ha
    exact hk x r k h1 h2 h3
theorem hd_mem {l : List Tk} (h : (hd q l).k ≠ 0) : ∃ t l', l = t :: l' := by
  cases l with
  | nil => exact absurd rfl h
  | cons t l' => exact ⟨t, l', rfl⟩
theorem sg_kt {t : Tk} {s : Str} (h : sg t s = true) : t.k = 5 ∧ t.t = s := by
  unfold sg at h
  simpa using h
theorem hd_sg {l : List Tk} {s : Str} (h : sg (hd q l) s = true) : ∃ t l', l = t :: l' ∧ t.k = 5 ∧ t.t = s := by
  obtain ⟨h1, h2⟩ := sg_kt h
  obtain ⟨t, l', rfl⟩ := hd_mem (q := q) (l := l) (by rw [h1]; decide)
  exact ⟨t, l', rfl, h1, h2⟩
def Pl (T : Tk → Prop) (E : Int → Prop) (q : Int) : Prop := (∀ t, T t → E t.p) ∧ E q
theorem Pl.hd (hE : Pl T E q) {l : List Tk} (h : All T l) : E (hd q l).p := by
  cases l with
  | nil => exact hE.2
  | cons t l => exact hE.1 t (h t (by simp))
def In {α : Type} (T : Tk → Prop) (E : Int → Prop) (A : Nat → α → Prop) (f : List Tk → Rs α) : Prop := ∀ l, All T l → Oc T E A l.length (f l)
theorem in_nmI (hE : Pl T E q) : In T E (fun k n => 1 ≤ k ∧ ∃ t, T t ∧ t.k = 1 ∧ n = t.t) (nmI q) := by
  intro l h
  unfold nmI
  split
  · rename_i hk
    obtain ⟨t, l, rfl⟩ := hd_mem (q := q) (l := l) (by rw [hk]; decide)
    exact Oc.good (k := 1) ⟨Nat.le_refl _, t, h t (by simp), hk, rfl⟩ (by simp; omega) h.tail
  · exact Oc.badly (hE.hd h) (Or.inl rfl)
theorem in_mtI (hE : Pl T E q) : In T E (fun k n => 1 ≤ k ∧ MO T n) (mtI q) := by
  intro l h
  unfold mtI
  split
  · exact Oc.badly (hE.hd h) (Or.inl rfl)
  · rename_i h1
    split
    · exact Oc.badly (hE.hd h.tail) (Or.inl rfl)
    · rename_i h2
      split
      · exact Oc.badly (hE.hd h.tail.tail) (Or.inl rfl)
      · rename_i h3
        rw [Decidable.not_not] at h1 h3
        rw [not_or, Decidable.not_not] at h2
        obtain ⟨a, l, rfl⟩ := hd_mem (q := q) (l := l) (by rw [h1]; decide)
        obtain ⟨b, l, rfl⟩ := hd_mem (q := q) (l := l) (by rw [show (hd q l).k = 5 from h2.1]; decide)
        obtain ⟨c, l, rfl⟩ := hd_mem (q := q) (l := l) (by rw [show (hd q l).k = 4 from h3]; decide)
        exact Oc.good (k := 1) ⟨Nat.le_refl _, Or.inr ⟨a, b, c, h a (by simp), h b (by simp), h c (by simp), h1, h2.1, h2.2, h3, rfl⟩⟩ (by simp; omega) h.tail.tail.tail
theorem in_lsF {α : Type} {M : α → Prop} {item : List Tk → Rs α} {cl : Str} {few : List α → Bool} (hE : Pl T E q) (hi : In T E (fun k n => 1 ≤ k ∧ M n) item) : ∀ (f : Nat) (first : Bool) (acc : List α) (l : List Tk), (∀ x ∈ acc, M x) → All T l → Oc T E (fun _ ns => (∀ x ∈ ns, M x) ∧ few ns = true) l.length (lsF q cl item few f first acc l)
  | 0, _, _, l, _, h => Oc.badly (hE.hd h) (Or.inl rfl)
  | f + 1, first, acc, l, ha, h => by
    rw [lsF]
    split
    · split
      · rename_i hf
        exact Oc.good (k := 0) ⟨ha, hf⟩ (by simp) h.tail
      · exact Oc.badly (hE.hd h) (Or.inr (Or.inr rfl))
    · split
      · exact Oc.badly (hE.hd h) (Or.inl rfl)
      · have hr : All T (if first = true then l else l.tail) := by
          cases first
          · exact h.tail
          · exact h
        have hl : (if first = true then l else l.tail).length ≤ l.length := by cases first <;> simp
        refine ((hi _ hr).mono hl).bnd ?_
        intro x r k hk hkn hr'
        refine (in_lsF hE hi f false (acc ++ [x]) r ?_ hr').mono (by omega)
        intro y hy
        rcases List.mem_append.1 hy with hy | hy
        · exact ha y hy
        · simp at hy
          subst hy
          exact hk.2
theorem in_nmP (hE : Pl T E q) : In T E (fun _ ns => (∀ n ∈ ns, ∃ t, T t ∧ t.k = 1 ∧ n = t.t) ∧ fewN ns = true) (nmP q) := by
  intro l h
  unfold nmP
  split
  · exact (in_lsF hE (in_nmI hE) _ _ _ _ (fun x hx => by simp at hx) h.tail).mono (by simp)
  · exact Oc.badly (hE.hd h) (Or.inl rfl)
theorem in_brP (hE : Pl T E q) (a : List Mt) (ha : ∀ x ∈ a, MO T x) (hl : a.length ≤ 8) : In T E (fun _ ns => (∀ x ∈ ns, MO T x) ∧ fewM ns = true) (brP q a) := by
  intro l h
  unfold brP
  split
  · exact (in_lsF hE (in_mtI hE) _ _ _ _ ha h.tail).mono (by simp)
  · exact Oc.good (k := 0) ⟨ha, by unfold fewM; simpa using hl⟩ (by omega) h
theorem in_wnP (hE : Pl T E q) : In T E (fun _ r => r = 0 ∨ ∃ t, T t ∧ t.k = 3 ∧ r = t.d) (wnP q) := by
  intro l h
  unfold wnP
  split
  · exact Oc.good (k := 0) (Or.inl rfl) (by omega) h
  · split
    · exact Oc.badly (hE.hd h.tail) (Or.inl rfl)
    · rename_i h3
      split
      · exact Oc.badly (hE.hd h.tail.tail) (Or.inl rfl)
      · rw [Decidable.not_not] at h3
        obtain ⟨a, l', e⟩ := hd_mem (q := q) (l := l.tail) (by rw [h3]; decide)
        refine Oc.good (k := 0) (Or.inr ⟨a, h.tail a (by rw [e]; simp), ?_, ?_⟩) (by simp; omega) h.tail.tail.tail
        · rw [e] at h3; exact h3
        · rw [e]; rfl
variable {X : Nat → Ex → Prop}
theorem in_selP (hE : Pl T E q) (hX : RdOK T X) {l : List Tk} (h : All T l) (hl : (hd q l).k = 1 ∨ sg (hd q l) [123] = true) : Oc T E X l.length (selP q l) := by
  unfold selP
  have hA : (∀ x ∈ selA q l, MO T x) ∧ (selA q l).length ≤ 8 ∧ All T (selL q l) ∧ (selL q l).length ≤ l.length := by
    unfold selA selL
    split
    · rename_i hk
      obtain ⟨t, l, rfl⟩ := hd_mem (q := q) (l := l) (by rw [hk]; decide)
      refine ⟨fun x hx => ?_, by simp, h.tail, by simp⟩
      simp at hx
      exact Or.inl ⟨t, h t (by simp), hk, hx⟩
    · exact ⟨fun x hx => by simp at hx, by simp, h, Nat.le_refl _⟩
  have hb : Oc T E (fun _ ns => (∀ x ∈ ns, MO T x) ∧ fewM ns = true) (l.length - 1) (brP q (selA q l) (selL q l)) := by
    by_cases hk : (hd q l).k = 1
    · refine (in_brP hE _ hA.1 hA.2.1 _ hA.2.2.1).mono ?_
      unfold selL
      rw [if_pos hk]
      simp
    · have hs := hl.resolve_left hk
      unfold brP
      have e : selL q l = l := by unfold selL; rw [if_neg hk]
      rw [e, if_pos hs]
      exact (in_lsF hE (in_mtI hE) _ _ _ _ hA.1 h.tail).mono (by simp)
  refine hb.bnd ?_
  intro a r k ha hk hr
  have h0 : 0 < l.length := by
    cases l with
    | nil => rcases hl with hl | hl <;> cases hl
    | cons x l => simp
  refine (in_wnP hE r hr).bnd ?_
  intro b r' k' hb hk' hr'
  refine Oc.good (k := 1) (hX.sel _ _ _ ha.1 ?_ hb) (by dsimp only; omega) hr'
  have := ha.2
  unfold fewM at this
  simpa using this
theorem in_modP (hE : Pl T E q) : In T E (fun _ m => GO T m.on m.ig m.ns) (modP q) := by
  intro l h
  unfold modP
  split
  · exact Oc.good (k := 0) (Or.inl ⟨rfl, rfl, rfl⟩) (by omega) h
  · rename_i hm
    refine ((in_nmP hE _ h.tail).mono (m := l.length) (by simp)).bnd ?_
    intro a r k ha hk hr
    refine Oc.good (k := 0) (Or.inr ⟨?_, ha.2, ha.1⟩) (by dsimp only; omega) hr
    rw [Bool.not_eq_false] at hm
    unfold hasMod at hm
    simp only [Bool.and_eq_true] at hm
    have h2 := hm.1.2
    unfold isModB at h2
    rw [Bool.or_eq_true, beq_iff_eq, beq_iff_eq] at h2
    show ((hd q l).t == wOn) ≠ ((hd q l).t == wIgn)
    rcases h2 with e | e <;> rw [e] <;> decide
theorem in_chF (hE : Pl T E q) (hX : RdOK T X) {lev : Int} (hl1 : 1 ≤ lev) {u : List Tk → Rs Ex} (hu : In T E X u) : ∀ (f n : Nat) (e : Ex) (l : List Tk), X n e → All T l → Oc T E X (n + l.length) (chF q lev u f e l)
  | 0, n, e, l, he, h => Oc.good (k := n) he (by omega) h
  | f + 1, n, e, l, he, h => by
    rw [chF]
    split
    · exact Oc.good (k := n) he (by omega) h
    · rename_i ho
      rw [Bool.not_eq_false] at ho
      unfold isOp at ho
      rw [Bool.and_eq_true, beq_iff_eq, beq_iff_eq] at ho
      obtain ⟨t, l, rfl⟩ := hd_mem (q := q) (l := l) (by rw [ho.1]; decide)
      have hj : Oc T E X (n + (t :: l).length) (joinP q u e (t :: l)) := by
        unfold joinP
        refine (in_modP hE _ h.tail).bnd ?_
        intro a r k ha hk hr
        refine (hu _ hr).bnd ?_
        intro b r' k' hb hk' hr'
        exact Oc.good (k := n + k' + 1) (hX.bin n k' t _ _ _ _ _ (h t (by simp)) ho.1 (by rw [show lv t.t = lev from ho.2]; exact hl1) ha he hb) (by simp at hk ⊢; omega) hr'
      refine hj.bnd ?_
      intro b r k hb hk hr
      exact (in_chF hE hX hl1 hu f k b r hb hr).mono hk
theorem in_chP (hE : Pl T E q) (hX : RdOK T X) {lev : Int} (hl1 : 1 ≤ lev) {u : List Tk → Rs Ex} (hu : In T E X u) : In T E X (chP q lev u) := by
  intro l h
  unfold chP
  refine (hu _ h).bnd ?_
  intro b r k hb hk hr
  exact (in_chF hE hX hl1 hu _ k b r hb hr).mono hk
theorem in_cmp (hE : Pl T E q) (hX : RdOK T X) {u : List Tk → Rs Ex} (hu : In T E X u) : In T E X (cmpP q u) := in_chP hE hX (by decide) (in_chP hE hX (by decide) (in_chP hE hX (by decide) hu))
theorem in_brk (hE : Pl T E q) {c : List Tk → Rs Ex} (hc : In T E X c) : In T E X (brkP q c) := by
  intro l h
  unfold brkP
  split
  · exact Oc.badly (hE.hd h) (Or.inl rfl)
  · refine ((hc _ h.tail).mono (m := l.length) (by simp)).bnd ?_
    intro b r k hb hk hr
    show Oc T E X _ (if sg (hd q r) [41] = true then .inr (b, r.tail) else .inl (bad q r 71))
    split
    · exact Oc.good (k := k) hb (by simp; omega) hr.tail
    · exact Oc.badly (hE.hd hr) (Or.inl rfl)
theorem in_grp (hE : Pl T E q) {l : List Tk} (h : All T l) (hg : (hd q l).k = 1 → isGrpB (hd q l).t = true) : Oc T E (fun _ m => GO T m.on m.ig m.ns) l.length (grpP q l) := by
  unfold grpP
  split
  · exact Oc.good (k := 0) (Or.inl ⟨rfl, rfl, rfl⟩) (by omega) h
  · rename_i hk
    rw [Decidable.not_not] at hk
    refine ((in_nmP hE _ h.tail).mono (m := l.length) (by simp)).bnd ?_
    intro a r k ha hk' hr
    refine Oc.good (k := 0) (Or.inr ⟨?_, ha.2, ha.1⟩) (by dsimp only; omega) hr
    have h2 := hg hk
    unfold isGrpB at h2
    rw [Bool.or_eq_true, beq_iff_eq, beq_iff_eq] at h2
    show ((hd q l).t == wBy) ≠ ((hd q l).t == wWo)
    rcases h2 with e | e <;> rw [e] <;> decide
theorem in_nam (hE : Pl T E q) (hX : RdOK T X) {c : List Tk → Rs Ex} (hc : In T E X c) {l : List Tk} (h : All T l) (hk : (hd q l).k = 1) : Oc T E X l.length (namP q c l) := by
  obtain ⟨t, l, rfl⟩ := hd_mem (q := q) (l := l) (by rw [hk]; decide)
  have hk : t.k = 1 := hk
  unfold namP
  split
  · rename_i ha
    rw [Bool.and_eq_true, Bool.or_eq_true, Bool.and_eq_true] at ha
    unfold aggP
    refine (in_grp hE h.tail ?_).bnd ?_
    · intro hk1
      rcases ha.2 with hs | hs
      · rw [(sg_kt hs).1] at hk1
        cases hk1
      · exact hs.2
    · intro m r k hm hkn hr
      refine (in_brk hE hc _ hr).bnd ?_
      intro b r' k' hb hk' hr'
      exact Oc.good (k := k' + 1) (hX.agg k' t _ _ _ _ (h t (by simp)) ha.1 hm hb) (by simp at hkn ⊢; omega) hr'
  · rename_i ha
    split
    · exact Oc.badly (hE.hd h) (Or.inl rfl)
    · rename_i hm
      split
      · rename_i ho
        have h1 : isAggB t.t = false := by
          cases hA : isAggB t.t with
          | false => rfl
          | true =>
            exfalso
            apply ha
            rw [ho, Bool.true_or, Bool.and_true]
            exact hA
        have h2 : isModB t.t = false := by
          cases hA : isModB t.t with
          | false => rfl
          | true =>
            exfalso
            apply hm
            rw [ho, Bool.and_true]
            exact hA
        unfold callP
        refine (in_brk hE hc _ h.tail).bnd ?_
        intro b r k hb hkn hr
        exact Oc.good (k := k + 1) (hX.call k t _ (h t (by simp)) hk h1 h2 hb) (by simp at hkn ⊢; omega) hr
      · exact in_selP hE hX h (Or.inl hk)
theorem in_prm (hE : Pl T E q) (hX : RdOK T X) {c : List Tk → Rs Ex} (hc : In T E X c) : In T E X (prmP q c) := by
  intro l h
  unfold prmP
  split
  · rename_i hk
    obtain ⟨t, l, rfl⟩ := hd_mem (q := q) (l := l) (by rw [hk]; decide)
    exact Oc.good (k := 1) (hX.num t (h t (by simp)) hk) (by simp; omega) h.tail
  · split
    · rename_i hk
      exact in_nam hE hX hc h hk
    · split
      · exact in_brk hE hc _ h
      · split
        · rename_i hs
          exact in_selP hE hX h (Or.inr hs)
        · exact Oc.badly (hE.hd h) (Or.inl rfl)
theorem in_un (hE : Pl T E q) (hX : RdOK T X) {n c : List Tk → Rs Ex} (hn : In T E X n) (hc : In T E X c) : In T E X (unP q n c) := by
  intro l h
  unfold unP
  split
  · exact in_prm hE hX hc l h
  · rename_i hs
    rw [Bool.not_eq_false] at hs
    obtain ⟨t, l, rfl, _, _⟩ := hd_sg hs
    refine (hn _ h.tail).bnd ?_
    intro b r k hb hkn hr
    exact Oc.good (k := k + 1) (hX.neg k t _ (h t (by simp)) hb) (by simp at hkn ⊢; omega) hr
theorem in_deep (hE : Pl T E q) : In T E X (deep q) := fun _ h => Oc.badly (hE.hd h) (Or.inr (Or.inl rfl))
theorem in_unD (hE : Pl T E q) (hX : RdOK T X) : ∀ d, In T E X (unD q d)
  | 0 => in_un hE hX (in_deep hE) (in_deep hE)
  | d + 1 => in_un hE hX (in_unD hE hX d) (in_cmp hE hX (in_unD hE hX d))
/-- All that is read of whatever signs. -/
theorem rd_all (hE : ∀ t, T t → E t.p) (h0 : E 0) (hX : RdOK T X) {l : List Tk} (h : All T l) : (∀ er, rdP l = .inl er → E er.1 ∧ (er.2 = 71 ∨ er.2 = 72 ∨ er.2 = 32)) ∧ ∀ e, rdP l = .inr e → ∃ k, X k e ∧ k ≤ l.length := by
  have hq : E (endP l) := by
    unfold endP
    cases hg : l.getLast? with
    | none => exact h0
    | some t => exact hE t (h t (List.mem_of_getLast? hg))
  have hE' : Pl T E (endP l) := ⟨hE, hq⟩
  have hc := in_cmp hE' hX (in_unD hE' hX 15) l h
  unfold rdP whP
  cases ha : cmpP (endP l) (unD (endP l) 15) l with
  | inl er =>
    rw [ha] at hc
    refine ⟨fun e h' => ?_, fun e h' => by cases h'⟩
    injection h' with h'
    subst h'
    exact hc.1 er rfl
  | inr x =>
    obtain ⟨x, r⟩ := x
    rw [ha] at hc
    obtain ⟨k, h1, h2, h3⟩ := hc.2 x r rfl
    show (∀ er, (if (hd (endP l) r).k = 0 then .inr x else .inl (bad (endP l) r 71)) = Sum.inl er → _) ∧ ∀ e, (if (hd (endP l) r).k = 0 then .inr x else .inl (bad (endP l) r 71)) = Sum.inr e → _
    split
    · refine ⟨fun e h' => (by cases h'), fun e h' => ?_⟩
      injection h' with h'
      subst h'
      exact ⟨k, h1, by omega⟩
    · refine ⟨fun e h' => ?_, fun e h' => by cases h'⟩
      injection h' with h'
      subst h'
      exact ⟨hE'.hd h3, Or.inl rfl⟩
end
end Go.Proofs.YtkppcgimhnocdabGreatDoor
/- Signs that stand one behind the other with no blank between: plain facts. -/
namespace Go.Proofs.YtkppcgimhnocdabGreatDoor
open Go.RowKit

/-- Nothing that stands ahead of it goes on in it. -/
def stp (c : UInt8) : Bool := [32, 40, 41, 123, 125, 91, 93, 44].contains c
theorem stp_cases {c : UInt8} (h : stp c = true) : c = 32 ∨ c = 40 ∨ c = 41 ∨ c = 123 ∨ c = 125 ∨ c = 91 ∨ c = 93 ∨ c = 44 := by
  unfold stp at h
  simpa using h
theorem stp_dig {c : UInt8} (h : stp c = true) : digB c = false := by
  rcases stp_cases h with rfl | rfl | rfl | rfl | rfl | rfl | rfl | rfl <;> decide
theorem stp_name {c : UInt8} (h : stp c = true) : nameCh c = false := by
  rcases stp_cases h with rfl | rfl | rfl | rfl | rfl | rfl | rfl | rfl <;> decide
theorem stp_sg {c : UInt8} (h : stp c = true) (a : UInt8) : isSg [a, c] = false := by
  cases hs : isSg [a, c] with
  | false => rfl
  | true =>
    have := sign_cases hs
    rcases stp_cases h with rfl | rfl | rfl | rfl | rfl | rfl | rfl | rfl <;> simp at this
theorem stp_ne {c : UInt8} (h : stp c = true) : c ≠ 116 ∧ c ≠ 46 := by
  rcases stp_cases h with rfl | rfl | rfl | rfl | rfl | rfl | rfl | rfl <;> decide
theorem tok_stop {s : Str} {x : Tk} {k : Nat} {c : UInt8} (hc : stp c = true) (b : Str) (hs : s ≠ []) (h : tok s = some (x, k)) : tok (s ++ c :: b) = some (x, k) := by
  rw [← h]
  have hcd := stp_dig hc
  have hcn := stp_name hc
  obtain ⟨c1, c2⟩ := stp_ne hc
  have hg : dgN (s ++ c :: b) = dgN s := by unfold dgN; rw [run_more s b hcd]
  have hi : idN (s ++ c :: b) = idN s := by unfold idN; rw [run_more s b hcn]
  unfold tok
  rw [headD_app _ hs]
  unfold tok at h
  split
  · rename_i hd
    unfold tkAmt
    have hgl := dgN_le s
    rw [hg, List.drop_append_of_le_length hgl, List.take_append_of_le_length hgl]
    have hh : ((s.drop (dgN s) ++ c :: b).head? = some 116) = ((s.drop (dgN s)).head? = some 116) := by
      cases s.drop (dgN s) with
      | nil => simp [c1]
      | cons c r => simp
    have hdn : decN (s.drop (dgN s) ++ c :: b) = decN (s.drop (dgN s)) := by
      cases s.drop (dgN s) with
      | nil =>
        show decN (c :: b) = decN []
        unfold decN
        rw [if_neg (by simp [c2]), if_neg (by simp)]
      | cons a r =>
        have : dgN (r ++ c :: b) = dgN r := by unfold dgN; rw [run_more r b hcd]
        have d1 : ∀ q, decN (a :: q) = if a = 46 then (if dgN q = 0 then 0 else 1 + dgN q) else 0 := fun q => by
          unfold decN
          by_cases hc : a = 46
          · rw [if_pos hc, if_pos (by rw [hc]; rfl)]; rfl
          · rw [if_neg hc, if_neg (by simp [hc])]
        rw [List.cons_append, d1, d1, this]
    have hdl := decN_le (s.drop (dgN s))
    simp at hdl
    rw [hdn, List.take_append_of_le_length (by omega)]
    simp only [hh]
  · split
    · rw [hi, List.take_append_of_le_length (idN_le s)]
    · split
      · rename_i h1 h2 h3
        rw [if_neg h1, if_neg h2, if_pos h3] at h
        have e : (s ++ c :: b).tail = s.tail ++ c :: b := by
          cases s with
          | nil => exact absurd rfl hs
          | cons c r => rfl
        unfold tkTx at h ⊢
        rw [e]
        cases hq : qd s.tail with
        | none => rw [hq] at h; cases h
        | some y => rw [qd_more _ s.tail _ (Nat.le_refl _) y hq]
      · unfold tkSg
        have e1 : (s ++ c :: b).take 1 = s.take 1 := by
          cases s with
          | nil => exact absurd rfl hs
          | cons c r => rfl
        rw [e1]
        by_cases h2 : 2 ≤ s.length
        · rw [List.take_append_of_le_length h2]
          have h2' : 2 ≤ (s ++ c :: b).length := by simp; omega
          simp only [h2, h2']
        · obtain ⟨a, rfl⟩ : ∃ a, s = [a] := by
            cases s with
            | nil => exact absurd rfl hs
            | cons c r =>
              cases r with
              | nil => exact ⟨c, rfl⟩
              | cons d r => simp at h2
          rw [show ([a] ++ c :: b).take 2 = [a, c] from rfl, stp_sg hc]
          have n1 : ¬ (2 ≤ ([a] ++ c :: b).length ∧ false = true) := fun e => by cases e.2
          have n2 : ¬ (2 ≤ [a].length ∧ isSg ([a].take 2) = true) := fun e => h2 e.1
          rw [if_neg n1, if_neg n2]
theorem scanG_stop {c : UInt8} (hc : stp c = true) (b : Str) (n : Nat) : ∀ (m : Nat) (r : Str) (l : List Tk), r.length ≤ m → r.length ≤ n → lead r = r → scanG n r = .inr l → scanG (n + 1 + b.length) (lead (r ++ c :: b)) = pre l (scanG (n + 1 + b.length) (lead (c :: b)))
  | m, [], l, _, _, _, hg => by
    rw [scanG_nil] at hg
    injection hg with hg
    subst hg
    rw [pre_nil, List.nil_append]
  | 0, c :: r, l, h, _, _, _ => by simp at h
  | m + 1, d :: r, l, h, hn, hl, hg => by
    have hr : d :: r ≠ [] := by simp
    rw [lead_app2 hl]
    generalize d :: r = r at *
    have hr2 : r ++ c :: b ≠ [] := by simp
    cases ht : tok r with
    | none => rw [scanG_none hr ht] at hg; cases hg
    | some y =>
      obtain ⟨x, k⟩ := y
      obtain ⟨k1, k2, _, _⟩ := tok_facts hr ht
      have hlt := lead_drop_lt hr k1
      rw [scanG_some hr ht k1] at hg
      cases hq : scanG n (lead (r.drop k)) with
      | inl p => rw [hq] at hg; cases hg
      | inr l' =>
        rw [hq] at hg
        have hg' : x.put ((n - r.length : Nat) : Int) :: l' = l := by injection hg
        subst hg'
        have ih := scanG_stop hc b n m (lead (r.drop k)) l' (by omega) (by omega) (lead_lead _) hq
        rw [scanG_some hr2 (tok_stop hc b hr ht) k1, List.drop_append_of_le_length k2, lead_lead_app, ih]
        have e : n + 1 + b.length - (r ++ c :: b).length = n - r.length := by simp; omega
        rw [e]
        cases scanG (n + 1 + b.length) (lead (c :: b)) <;> rfl
theorem sc_stop {c : UInt8} (hc : stp c = true) {a b : Str} {l : List Tk} (h : sc a = .inr l) : sc (a ++ c :: b) = pre l (shR a.length (sc (c :: b))) := by
  unfold sc at *
  have e : (a ++ c :: b).length = a.length + 1 + b.length := by simp; omega
  have e2 : a.length + 1 + b.length = a.length + (c :: b).length := by simp; omega
  rw [e, lead_lead_app, scanG_stop hc b a.length (lead a).length (lead a) l (Nat.le_refl _) (lead_le a) (lead_lead a) h, e2, scanG_shift a.length (c :: b).length (lead (c :: b)).length (lead (c :: b)) (Nat.le_refl _) (lead_le _)]
/-- Brackets round a text are signs round its signs. -/
theorem sc_open (s : Str) : sc (40 :: s) = push ⟨5, 0, [40], false, 0, 0⟩ (shR 1 (sc s)) := by
  have ht : tok (40 :: s) = some (tSign [40], 1) := by
    unfold tok
    rw [List.headD_cons, if_neg (by decide), if_neg (by decide), if_neg (by decide)]
    unfold tkSg
    rw [if_neg, if_pos]
    · rfl
    · rfl
    · rintro ⟨_, h⟩
      have := sign_cases h
      cases s with
      | nil => simp at *
      | cons c s => simp at this
  have hl : lead (40 :: s) = 40 :: s := lead_cons (by decide)
  unfold sc
  rw [hl, scanG_some (by simp) ht (Nat.le_refl _)]
  have e : (40 :: s).length = 1 + s.length := by simp; omega
  rw [List.drop_succ_cons, List.drop_zero, e, scanG_shift 1 s.length (lead s).length (lead s) (Nat.le_refl _) (lead_le _), ← e, Nat.sub_self]
  rfl
theorem sc_round {s : Str} {l : List Tk} (h : sc s = .inr l) : ∃ o c, sc (40 :: (s ++ [41])) = .inr (o :: (l.map (sh 1) ++ [c])) ∧ o.k = 5 ∧ o.t = [40] ∧ c.k = 5 ∧ c.t = [41] := by
  have h1 : sc (40 :: s) = .inr (⟨5, 0, [40], false, 0, 0⟩ :: l.map (sh 1)) := by rw [sc_open, h]; rfl
  have h2 := sc_stop (c := 41) (by decide) (b := []) h1
  have h3 : sc [41] = .inr [⟨5, 0, [41], false, 0, 0⟩] := by kernel_rfl
  rw [h3] at h2
  exact ⟨_, sh (40 :: s).length ⟨5, 0, [41], false, 0, 0⟩, h2, rfl, rfl, rfl, rfl⟩
end Go.Proofs.YtkppcgimhnocdabGreatDoor
/- Brackets round an expression change nothing but places: plain facts. -/
namespace Go.Proofs.YtkppcgimhnocdabGreatDoor
open Go.RowKit

/-! ### Without places -/
def strG (e : Ex) (ks : List Ex) : Ex := ⟨e.k, 0, e.o, e.v, e.s, e.m, e.r, e.b1, e.b2, e.b3, e.b4, e.ns, ks⟩
def str (e : Ex) : Ex := foldE strG e
def strL : List Ex → List Ex
  | [] => []
  | x :: l => str x :: strL l
theorem strL_map : ∀ l, strL l = l.map str
  | [] => rfl
  | x :: l => by rw [strL, strL_map l]; rfl
theorem str_mk (k p : Int) (o : Bool) (v : Int) (s : Str) (m : List Mt) (r : Int) (b1 b2 b3 b4 : Bool) (ns : List Str) (ks : List Ex) : str ⟨k, p, o, v, s, m, r, b1, b2, b3, b4, ns, ks⟩ = ⟨k, 0, o, v, s, m, r, b1, b2, b3, b4, ns, strL ks⟩ := by
  show foldE strG _ = _
  rw [foldE_eq, strL_map]
  rfl
def Eqx (a b : Ex) : Prop := str a = str b
theorem eqx_num (p p' : Int) (o : Bool) (v : Int) : Eqx (eNum p o v) (eNum p' o v) := by
  unfold Eqx eNum
  rw [str_mk, str_mk]
theorem eqx_sel (p p' : Int) (m : List Mt) (r : Int) : Eqx (eSel p m r) (eSel p' m r) := by
  unfold Eqx eSel
  rw [str_mk, str_mk]
theorem eqx_call (p p' : Int) (s : Str) {a b : Ex} (h : Eqx a b) : Eqx (eCall p s a) (eCall p' s b) := by
  unfold Eqx at *
  unfold eCall
  simp only [str_mk, strL, h]
theorem eqx_agg (p p' : Int) (s : Str) (b1 b2 : Bool) (ns : List Str) {a b : Ex} (h : Eqx a b) : Eqx (eAgg p s b1 b2 ns a) (eAgg p' s b1 b2 ns b) := by
  unfold Eqx at *
  unfold eAgg
  simp only [str_mk, strL, h]
theorem eqx_neg (p p' : Int) {a b : Ex} (h : Eqx a b) : Eqx (eNeg p a) (eNeg p' b) := by
  unfold Eqx at *
  unfold eNeg
  simp only [str_mk, strL, h]
theorem eqx_bin (p p' : Int) (s : Str) (b3 b4 : Bool) (ns : List Str) {a b c d : Ex} (h : Eqx a b) (h' : Eqx c d) : Eqx (eBin p s b3 b4 ns a c) (eBin p' s b3 b4 ns b d) := by
  unfold Eqx at *
  unfold eBin
  simp only [str_mk, strL, h, h']

/-! ### Two rows of signs that are read alike -/
/-- The same signs, at other places; then the one ends, and in the other a bracket is closed. -/
def Rl (Z l1 l2 : List Tk) : Prop := ∃ T1 T2 R1 R2, l1 = T1 ++ R1 ∧ l2 = T2 ++ R2 ∧ T1.map (Tk.put · 0) = T2.map (Tk.put · 0) ∧ (∀ x ∈ T1, x.k ≠ 0) ∧ (R1 = [] ∨ ∃ E, R1 = [E] ∧ E.k = 0) ∧ R2 = Z ∧ ∃ c R, R2 = c :: R ∧ c.k = 5 ∧ c.t = [41]
variable {Z : List Tk}
theorem put_eq {x y : Tk} (h : x.put 0 = y.put 0) : y = x.put y.p := by
  obtain ⟨a, b, c, d, e, f⟩ := x
  obtain ⟨a', b', c', d', e', f'⟩ := y
  unfold Tk.put at *
  simp at h ⊢
  obtain ⟨h1, h2, h3, h4, h5⟩ := h
  exact ⟨h1.symm, h2.symm, h3.symm, h4.symm, h5.symm⟩
theorem Rl.cases {l1 l2 : List Tk} (h : Rl Z l1 l2) (q : Int) : ((hd q l1).k = 0 ∧ (∃ E, l1 = [] ∨ l1 = [E]) ∧ ∃ c R, l2 = c :: R ∧ c.k = 5 ∧ c.t = [41]) ∨ ∃ x p l1' l2', l1 = x :: l1' ∧ l2 = x.put p :: l2' ∧ x.k ≠ 0 ∧ Rl Z l1' l2' := by
  obtain ⟨T1, T2, R1, R2, rfl, rfl, hT, h0, hR1, hZ, c, R, rfl, h5, ht⟩ := h
  cases T1 with
  | nil =>
    cases T2 with
    | cons y T2 => simp at hT
    | nil =>
      refine Or.inl ⟨?_, ?_, c, R, rfl, h5, ht⟩
      · rcases hR1 with rfl | ⟨E, rfl, hE⟩
        · rfl
        · exact hE
      · rcases hR1 with rfl | ⟨E, rfl, _⟩
        · exact ⟨c, Or.inl rfl⟩
        · exact ⟨E, Or.inr rfl⟩
  | cons x T1 =>
    cases T2 with
    | nil => simp at hT
    | cons y T2 =>
      rw [List.map_cons, List.map_cons] at hT
      injection hT with h1 h2
      refine Or.inr ⟨x, y.p, T1 ++ R1, T2 ++ c :: R, rfl, by rw [← put_eq h1]; rfl, h0 x (by simp), T1, T2, R1, c :: R, rfl, rfl, h2, fun z hz => h0 z (by simp [hz]), hR1, hZ, c, R, rfl, h5, ht⟩
theorem Rl.rest {l1 l2 : List Tk} (h : Rl Z l1 l2) {q : Int} (h0 : (hd q l1).k = 0) : l2 = Z := by
  obtain ⟨T1, T2, R1, R2, rfl, rfl, hT, hx, hR1, hZ, c, R, rfl, h5, ht⟩ := h
  cases T1 with
  | nil =>
    cases T2 with
    | cons y T2 => simp at hT
    | nil => exact hZ
  | cons x T1 => exact absurd h0 (hx x (by simp))
theorem Rl.len {l1 l2 : List Tk} (h : Rl Z l1 l2) : l1.length ≤ l2.length := by
  obtain ⟨T1, T2, R1, R2, rfl, rfl, hT, h0, hR1, hZ, c, R, rfl, h5, ht⟩ := h
  have := congrArg List.length hT
  simp at this
  rcases hR1 with rfl | ⟨E, rfl, _⟩ <;> simp <;> omega
theorem sg0 {t : Tk} {s : Str} (h : t.k = 0) : sg t s = false := by unfold sg; rw [h]; rfl
theorem sgc {t : Tk} {s : Str} (ht : t.t = [41]) (hs : ([41] : Str) ≠ s) : sg t s = false := by
  unfold sg
  rw [ht, beq_eq_false_iff_ne.2 hs, Bool.and_false]
theorem Rl.sg {l1 l2 : List Tk} (h : Rl Z l1 l2) (q1 q2 : Int) {s : Str} (hs : ([41] : Str) ≠ s) : Go.Proofs.YtkppcgimhnocdabGreatDoor.sg (hd q1 l1) s = Go.Proofs.YtkppcgimhnocdabGreatDoor.sg (hd q2 l2) s := by
  rcases h.cases q1 with ⟨h0, _, c, R, rfl, h5, ht⟩ | ⟨x, p, l1', l2', rfl, rfl, hx, h'⟩
  · rw [sg0 h0]; exact (sgc ht hs).symm
  · rfl
def Ot {α : Type} (Z : List Tk) (n : Nat) (R : α → α → Prop) (a b : Rs α) : Prop := ∀ e1 r1, a = .inr (e1, r1) → (r1.length ≤ n ∧ ∃ e2 r2, b = .inr (e2, r2) ∧ R e1 e2 ∧ Rl Z r1 r2) ∨ ∃ p, b = .inl (p, 72)
theorem Ot.bad {α : Type} {n : Nat} {R : α → α → Prop} {er : Er} {b : Rs α} : Ot Z n R (.inl er) b := fun _ _ h => by cases h
theorem Ot.good {α : Type} {n : Nat} {R : α → α → Prop} {x y : α} {r s : List Tk} (h : R x y) (hr : Rl Z r s) (hn : r.length ≤ n) : Ot Z n R (.inr (x, r)) (.inr (y, s)) := fun e1 r1 h' => by
  injection h' with h'
  injection h' with h1 h2
  subst h1 h2
  exact Or.inl ⟨hn, y, s, rfl, h, hr⟩
theorem Ot.deep {α : Type} {n : Nat} {R : α → α → Prop} {a : Rs α} {p : Int} : Ot Z n R a (.inl (p, 72)) := fun _ _ _ => Or.inr ⟨p, rfl⟩
theorem Ot.mono {α : Type} {n m : Nat} {R : α → α → Prop} {a b : Rs α} (h : Ot Z n R a b) (hn : n ≤ m) : Ot Z m R a b := fun e1 r1 h' => by
  rcases h e1 r1 h' with ⟨h1, h2⟩ | h
  · exact Or.inl ⟨by omega, h2⟩
  · exact Or.inr h
theorem Ot.bnd {α β : Type} {n : Nat} {R : α → α → Prop} {R' : β → β → Prop} {a b : Rs α} {k1 k2 : α × List Tk → Rs β} (h : Ot Z n R a b) (hk : ∀ x y r s, r.length ≤ n → R x y → Rl Z r s → Ot Z n R' (k1 (x, r)) (k2 (y, s))) : Ot Z n R' (Go.Proofs.YtkppcgimhnocdabGreatDoor.bnd a k1) (Go.Proofs.YtkppcgimhnocdabGreatDoor.bnd b k2) := by
  intro e1 r1 h'
  cases ha : a with
  | inl er => rw [ha] at h'; cases h'
  | inr x =>
    obtain ⟨x, r⟩ := x
    rw [ha] at h'
    rcases h x r ha with ⟨hn, y, s, rfl, hR, hr⟩ | ⟨p, rfl⟩
    · exact hk x y r s hn hR hr e1 r1 h'
    · exact Or.inr ⟨p, rfl⟩
def Sim {α : Type} (Z : List Tk) (R : α → α → Prop) (f g : List Tk → Rs α) : Prop := ∀ l1 l2, Rl Z l1 l2 → Ot Z l1.length R (f l1) (g l2)

/-! ### The reader's parts, one by one -/
theorem nmI0 {q : Int} {l : List Tk} (h : (hd q l).k = 0) : nmI q l = .inl (Go.Proofs.YtkppcgimhnocdabGreatDoor.bad q l 71) := by unfold nmI; rw [if_neg (by rw [h]; decide)]
theorem sim_nmI (q1 q2 : Int) : Sim Z Eq (nmI q1) (nmI q2) := by
  intro l1 l2 h
  rcases h.cases q1 with ⟨h0, _, c, R, rfl, h5, ht⟩ | ⟨x, p, l1', l2', rfl, rfl, hx, h'⟩
  · rw [nmI0 h0]; exact Ot.bad
  · show Ot Z _ _ (if x.k = 1 then .inr (x.t, l1') else .inl _) (if x.k = 1 then .inr (x.t, l2') else .inl _)
    split
    · exact Ot.good rfl h' (by simp)
    · exact Ot.bad
theorem mtI0 {q : Int} {l : List Tk} (h : (hd q l).k = 0) : mtI q l = .inl (Go.Proofs.YtkppcgimhnocdabGreatDoor.bad q l 71) := by unfold mtI; rw [if_pos (by rw [h]; decide)]
theorem sim_mtI (q1 q2 : Int) : Sim Z Eq (mtI q1) (mtI q2) := by
  intro l1 l2 h
  rcases h.cases q1 with ⟨h0, _, c, R, rfl, h5, ht⟩ | ⟨x, p, l1', l2', rfl, rfl, hx, h'⟩
  · rw [mtI0 h0]; exact Ot.bad
  · by_cases h1 : x.k ≠ 1
    · unfold mtI
      rw [if_pos (show (hd q1 (x :: l1')).k ≠ 1 from h1)]; exact Ot.bad
    · rcases h'.cases q1 with ⟨h0, _, c, R, rfl, h5, ht⟩ | ⟨y, p', m1, m2, rfl, rfl, hy, h''⟩
      · unfold mtI
        rw [if_neg (show ¬ (hd q1 (x :: l1')).k ≠ 1 from h1), List.tail_cons, if_pos (Or.inl (by rw [h0]; decide))]; exact Ot.bad
      · by_cases h2 : y.k ≠ 5 ∨ mkd y.t = 0
        · unfold mtI
          rw [if_neg (show ¬ (hd q1 (x :: y :: m1)).k ≠ 1 from h1), List.tail_cons, if_pos (show (hd q1 (y :: m1)).k ≠ 5 ∨ mkd (hd q1 (y :: m1)).t = 0 from h2)]; exact Ot.bad
        · rcases h''.cases q1 with ⟨h0, _, c, R, rfl, h5, ht⟩ | ⟨z, p'', n1, n2, rfl, rfl, hz, h'''⟩
          · unfold mtI
            rw [if_neg (show ¬ (hd q1 (x :: y :: m1)).k ≠ 1 from h1), List.tail_cons, if_neg (show ¬ ((hd q1 (y :: m1)).k ≠ 5 ∨ mkd (hd q1 (y :: m1)).t = 0) from h2), List.tail_cons, if_pos (by rw [h0]; decide)]; exact Ot.bad
          · show Ot Z _ _ (if x.k ≠ 1 then .inl _ else if y.k ≠ 5 ∨ mkd y.t = 0 then .inl _ else if z.k ≠ 4 then .inl _ else .inr ((⟨x.t, mkd y.t, z.t⟩ : Mt), n1)) (if x.k ≠ 1 then .inl _ else if y.k ≠ 5 ∨ mkd y.t = 0 then .inl _ else if z.k ≠ 4 then .inl _ else .inr ((⟨x.t, mkd y.t, z.t⟩ : Mt), n2))
            rw [if_neg h1, if_neg h2, if_neg h1, if_neg h2]
            split
            · exact Ot.bad
            · exact Ot.good rfl h''' (by simp; omega)
theorem sim_lsF {α : Type} {q1 q2 : Int} {cl : Str} {i1 i2 : List Tk → Rs α} {few : List α → Bool} (hi : Sim Z Eq i1 i2) (h0 : ∀ l, (hd q1 l).k = 0 → ∃ er, i1 l = .inl er) : ∀ (f1 f2 : Nat) (first : Bool) (acc : List α) (l1 l2 : List Tk), f1 ≤ f2 → Rl Z l1 l2 → Ot Z l1.length Eq (lsF q1 cl i1 few f1 first acc l1) (lsF q2 cl i2 few f2 first acc l2)
  | 0, f2, first, acc, l1, l2, _, _ => Ot.bad
  | f1 + 1, 0, first, acc, l1, l2, hf, _ => by omega
  | f1 + 1, f2 + 1, first, acc, l1, l2, hf, h => by
    rw [lsF, lsF]
    rcases h.cases q1 with ⟨hk, _, c, R, rfl, h5, ht⟩ | ⟨x, p, l1', l2', rfl, rfl, hx, h'⟩
    · rw [sg0 hk, sg0 hk, if_neg (by simp)]
      cases first with
      | false => rw [if_pos ⟨rfl, rfl⟩]; exact Ot.bad
      | true =>
        obtain ⟨er, he⟩ := h0 l1 hk
        rw [if_neg (by simp), if_pos rfl, he]
        exact Ot.bad
    · show Ot Z _ _ (if sg x cl = true then (if few acc = true then .inr (acc, l1') else .inl _) else if first = false ∧ sg x [44] = false then .inl _ else bnd (i1 (if first = true then x :: l1' else l1')) _) (if sg x cl = true then (if few acc = true then .inr (acc, l2') else .inl _) else if first = false ∧ sg x [44] = false then .inl _ else bnd (i2 (if first = true then x.put p :: l2' else l2')) _)
      split
      · split
        · exact Ot.good rfl h' (by simp)
        · exact Ot.bad
      · split
        · exact Ot.bad
        · have hr : Rl Z (if first = true then x :: l1' else l1') (if first = true then x.put p :: l2' else l2') := by
            cases first
            · exact h'
            · exact h
          have hl : (if first = true then x :: l1' else l1').length ≤ (x :: l1').length := by
            cases first <;> simp
          refine ((hi _ _ hr).mono hl).bnd ?_
          rintro a _ r s hn rfl hrs
          exact (sim_lsF hi h0 f1 f2 false (acc ++ [a]) r s (by omega) hrs).mono hn
theorem sim_nmP (q1 q2 : Int) : Sim Z Eq (nmP q1) (nmP q2) := by
  intro l1 l2 h
  unfold nmP
  rw [← h.sg q1 q2 (by decide)]
  split
  · rename_i hs
    rcases h.cases q1 with ⟨hk, _, c, R, rfl, h5, ht⟩ | ⟨x, p, l1', l2', rfl, rfl, hx, h'⟩
    · rw [sg0 hk] at hs; cases hs
    · have := h.len
      exact (sim_lsF (sim_nmI q1 q2) (fun l hl => ⟨_, nmI0 hl⟩) _ _ _ _ _ _ (by omega) h').mono (by simp)
  · exact Ot.bad
theorem sim_brP (q1 q2 : Int) (a : List Mt) : Sim Z Eq (brP q1 a) (brP q2 a) := by
  intro l1 l2 h
  unfold brP
  rw [← h.sg q1 q2 (by decide)]
  split
  · rename_i hs
    rcases h.cases q1 with ⟨hk, _, c, R, rfl, h5, ht⟩ | ⟨x, p, l1', l2', rfl, rfl, hx, h'⟩
    · rw [sg0 hk] at hs; cases hs
    · have := h.len
      exact (sim_lsF (sim_mtI q1 q2) (fun l hl => ⟨_, mtI0 hl⟩) _ _ _ _ _ _ (by omega) h').mono (by simp)
  · exact Ot.good rfl h (Nat.le_refl _)
theorem sim_wnP (q1 q2 : Int) : Sim Z Eq (wnP q1) (wnP q2) := by
  intro l1 l2 h
  unfold wnP
  rw [← h.sg q1 q2 (by decide)]
  split
  · exact Ot.good rfl h (Nat.le_refl _)
  · rename_i hs
    rcases h.cases q1 with ⟨hk, _, c, R, rfl, h5, ht⟩ | ⟨x, p, l1', l2', rfl, rfl, hx, h'⟩
    · exact absurd (sg0 hk) hs
    · rcases h'.cases q1 with ⟨hk, _, c, R, rfl, h5, ht⟩ | ⟨y, p', m1, m2, rfl, rfl, hy, h''⟩
      · rw [List.tail_cons, if_pos (by rw [hk]; decide)]; exact Ot.bad
      · show Ot Z _ _ (if y.k ≠ 3 then .inl _ else if sg (hd q1 m1) [93] = false then .inl _ else .inr (y.d, m1.tail)) (if y.k ≠ 3 then .inl _ else if sg (hd q2 m2) [93] = false then .inl _ else .inr (y.d, m2.tail))
        split
        · exact Ot.bad
        · rw [← h''.sg q1 q2 (by decide)]
          split
          · exact Ot.bad
          · rename_i hs2
            rcases h''.cases q1 with ⟨hk, _, c, R, rfl, h5, ht⟩ | ⟨z, p'', n1, n2, rfl, rfl, hz, h'''⟩
            · exact absurd (sg0 hk) hs2
            · exact Ot.good rfl h''' (by simp; omega)
theorem sim_selP (q1 q2 : Int) : Sim Z Eqx (selP q1) (selP q2) := by
  intro l1 l2 h
  unfold selP
  have hA : selA q1 l1 = selA q2 l2 ∧ Rl Z (selL q1 l1) (selL q2 l2) ∧ (selL q1 l1).length ≤ l1.length := by
    unfold selA selL
    rcases h.cases q1 with ⟨hk, _, c, R, rfl, h5, ht⟩ | ⟨x, p, l1', l2', rfl, rfl, hx, h'⟩
    · have e : (hd q2 (c :: R)).k = 5 := h5
      rw [if_neg (by rw [hk]; decide), if_neg (by rw [e]; decide), if_neg (by rw [hk]; decide), if_neg (by rw [e]; decide)]
      exact ⟨rfl, h, Nat.le_refl _⟩
    · show (if x.k = 1 then [(⟨nmL, 1, x.t⟩ : Mt)] else []) = (if x.k = 1 then [(⟨nmL, 1, x.t⟩ : Mt)] else []) ∧ Rl Z (if x.k = 1 then l1' else x :: l1') (if x.k = 1 then l2' else x.put p :: l2') ∧ _
      refine ⟨rfl, ?_, ?_⟩
      · split
        · exact h'
        · exact h
      · show (if x.k = 1 then l1' else x :: l1').length ≤ _
        split <;> simp
  obtain ⟨hA1, hA2, hA3⟩ := hA
  rw [← hA1]
  refine ((sim_brP q1 q2 _ _ _ hA2).mono hA3).bnd ?_
  rintro a _ r s hn rfl hr
  refine ((sim_wnP q1 q2 _ _ hr).mono hn).bnd ?_
  rintro b _ r' s' hn' rfl hr'
  exact Ot.good (eqx_sel _ _ _ _) hr' hn'
theorem Rl.mod {l1 l2 : List Tk} (h : Rl Z l1 l2) (q1 q2 : Int) : hasMod q1 l1 = hasMod q2 l2 := by
  unfold hasMod
  rcases h.cases q1 with ⟨hk, _, c, R, rfl, h5, ht⟩ | ⟨x, p, l1', l2', rfl, rfl, hx, h'⟩
  · have e : (hd q2 (c :: R)).k = 5 := h5
    rw [hk, e]
    rfl
  · rw [List.tail_cons, List.tail_cons, h'.sg q1 q2 (by decide)]
    rfl
theorem sim_modP (q1 q2 : Int) : Sim Z Eq (modP q1) (modP q2) := by
  intro l1 l2 h
  unfold modP
  rw [← h.mod q1 q2]
  split
  · exact Ot.good rfl h (Nat.le_refl _)
  · rename_i hm
    rcases h.cases q1 with ⟨hk, _, c, R, rfl, h5, ht⟩ | ⟨x, p, l1', l2', rfl, rfl, hx, h'⟩
    · exfalso
      apply hm
      unfold hasMod
      rw [hk]
      rfl
    · refine ((sim_nmP q1 q2 _ _ h').mono (by simp)).bnd ?_
      rintro b _ r' s' hn' rfl hr'
      exact Ot.good rfl hr' hn'
theorem Rl.op {l1 l2 : List Tk} (h : Rl Z l1 l2) (q1 q2 : Int) {lev : Int} (hl : 1 ≤ lev) : isOp q1 lev l1 = isOp q2 lev l2 := by
  unfold isOp
  rcases h.cases q1 with ⟨hk, _, c, R, rfl, h5, ht⟩ | ⟨x, p, l1', l2', rfl, rfl, hx, h'⟩
  · have e : (hd q2 (c :: R)).t = [41] := ht
    rw [hk, e]
    have : (lv [41] == lev) = false := by rw [show lv [41] = 0 by decide]; rw [beq_eq_false_iff_ne]; omega
    rw [this, Bool.and_false]
    rfl
  · rfl
theorem sim_chF {q1 q2 lev : Int} (hlev : 1 ≤ lev) {u1 u2 : List Tk → Rs Ex} (hu : Sim Z Eqx u1 u2) : ∀ (f1 f2 : Nat) (e1 e2 : Ex) (l1 l2 : List Tk), l1.length < f1 → f1 ≤ f2 → Eqx e1 e2 → Rl Z l1 l2 → Ot Z l1.length Eqx (chF q1 lev u1 f1 e1 l1) (chF q2 lev u2 f2 e2 l2)
  | 0, f2, e1, e2, l1, l2, hf, _, _, _ => by omega
  | f1 + 1, 0, e1, e2, l1, l2, _, hf, _, _ => by omega
  | f1 + 1, f2 + 1, e1, e2, l1, l2, hl, hf, he, h => by
    rw [chF, chF, ← h.op q1 q2 hlev]
    split
    · exact Ot.good he h (Nat.le_refl _)
    · rename_i ho
      rcases h.cases q1 with ⟨hk, _, c, R, rfl, h5, ht⟩ | ⟨x, p, l1', l2', rfl, rfl, hx, h'⟩
      · exfalso
        apply ho
        unfold isOp
        rw [hk]
        rfl
      · have hj : Ot Z l1'.length Eqx (joinP q1 u1 e1 (x :: l1')) (joinP q2 u2 e2 (x.put p :: l2')) := by
          unfold joinP
          refine (sim_modP q1 q2 _ _ h').bnd ?_
          rintro b _ r s hn rfl hr
          refine ((hu _ _ hr).mono hn).bnd ?_
          intro y y' r' s' hn' hy hr'
          exact Ot.good (eqx_bin _ _ _ _ _ _ he hy) hr' hn'
        simp at hl
        refine Ot.mono (n := l1'.length) (hj.bnd ?_) (by simp)
        intro y y' r s hn hy hr
        exact (sim_chF hlev hu f1 f2 y y' r s (by omega) (by omega) hy hr).mono hn
theorem sim_chP {q1 q2 lev : Int} (hlev : 1 ≤ lev) {u1 u2 : List Tk → Rs Ex} (hu : Sim Z Eqx u1 u2) : Sim Z Eqx (chP q1 lev u1) (chP q2 lev u2) := by
  intro l1 l2 h
  unfold chP
  refine (hu _ _ h).bnd ?_
  intro x y r s hn hx hr
  have := hr.len
  exact (sim_chF hlev hu _ _ x y r s (by dsimp only; omega) (by dsimp only; omega) hx hr).mono hn
theorem sim_cmp {q1 q2 : Int} {u1 u2 : List Tk → Rs Ex} (hu : Sim Z Eqx u1 u2) : Sim Z Eqx (cmpP q1 u1) (cmpP q2 u2) :=
  sim_chP (by decide) (sim_chP (by decide) (sim_chP (by decide) hu))
theorem sim_brk {q1 q2 : Int} {c1 c2 : List Tk → Rs Ex} (hc : Sim Z Eqx c1 c2) : Sim Z Eqx (brkP q1 c1) (brkP q2 c2) := by
  intro l1 l2 h
  unfold brkP
  rw [← h.sg q1 q2 (by decide)]
  split
  · exact Ot.bad
  · rename_i hs
    rcases h.cases q1 with ⟨hk, _, c, R, rfl, h5, ht⟩ | ⟨x, p, l1', l2', rfl, rfl, hx, h'⟩
    · exact absurd (sg0 hk) hs
    · refine ((hc _ _ h').mono (m := (x :: l1').length) (by simp)).bnd ?_
      intro a b r s hn ha hr
      rcases hr.cases q1 with ⟨hk, _, c, R, rfl, h5, ht⟩ | ⟨y, p', r', s', rfl, rfl, hy, hr'⟩
      · show Ot Z _ _ (if sg (hd q1 r) [41] = true then _ else _) _
        rw [sg0 hk]
        exact Ot.bad
      · show Ot Z _ _ (if sg y [41] = true then .inr (a, r') else .inl _) (if sg y [41] = true then .inr (b, s') else .inl _)
        split
        · exact Ot.good ha hr' (by simp at hn ⊢; omega)
        · exact Ot.bad
theorem sim_call {q1 q2 : Int} {c1 c2 : List Tk → Rs Ex} (hc : Sim Z Eqx c1 c2) (x : Tk) (p : Int) {l1 l2 : List Tk} (h : Rl Z l1 l2) : Ot Z (x :: l1).length Eqx (callP q1 c1 (x :: l1)) (callP q2 c2 (x.put p :: l2)) := by
  unfold callP
  refine ((sim_brk hc _ _ h).mono (m := (x :: l1).length) (by simp)).bnd ?_
  intro a b r s hn ha hr
  exact Ot.good (eqx_call _ _ _ ha) hr hn
theorem sim_grp (q1 q2 : Int) : Sim Z Eq (grpP q1) (grpP q2) := by
  intro l1 l2 h
  unfold grpP
  rcases h.cases q1 with ⟨hk, _, c, R, rfl, h5, ht⟩ | ⟨x, p, l1', l2', rfl, rfl, hx, h'⟩
  · have e : (hd q2 (c :: R)).k = 5 := h5
    rw [if_pos (by rw [hk]; decide), if_pos (by rw [e]; decide)]
    exact Ot.good rfl h (Nat.le_refl _)
  · show Ot Z _ _ (if x.k ≠ 1 then .inr (_, x :: l1') else bnd (nmP q1 l1') _) (if x.k ≠ 1 then .inr (_, x.put p :: l2') else bnd (nmP q2 l2') _)
    split
    · exact Ot.good rfl h (Nat.le_refl _)
    · refine ((sim_nmP q1 q2 _ _ h').mono (m := (x :: l1').length) (by simp)).bnd ?_
      rintro b _ r' s' hn' rfl hr'
      exact Ot.good rfl hr' hn'
theorem sim_agg {q1 q2 : Int} {c1 c2 : List Tk → Rs Ex} (hc : Sim Z Eqx c1 c2) (x : Tk) (p : Int) {l1 l2 : List Tk} (h : Rl Z l1 l2) : Ot Z (x :: l1).length Eqx (aggP q1 c1 (x :: l1)) (aggP q2 c2 (x.put p :: l2)) := by
  unfold aggP
  refine ((sim_grp q1 q2 _ _ h).mono (m := (x :: l1).length) (by simp)).bnd ?_
  rintro a _ r s hn rfl hr
  refine ((sim_brk hc _ _ hr).mono hn).bnd ?_
  intro y y' r' s' hn' hy hr'
  exact Ot.good (eqx_agg _ _ _ _ _ _ hy) hr' hn'
theorem Rl.grp {l1 l2 : List Tk} (h : Rl Z l1 l2) (q1 q2 : Int) : ((hd q1 l1).k == 1 && isGrpB (hd q1 l1).t) = ((hd q2 l2).k == 1 && isGrpB (hd q2 l2).t) := by
  rcases h.cases q1 with ⟨hk, _, c, R, rfl, h5, ht⟩ | ⟨x, p, l1', l2', rfl, rfl, hx, h'⟩
  · have e : (hd q2 (c :: R)).k = 5 := h5
    rw [hk, e]
    rfl
  · rfl
theorem sim_nam {q1 q2 : Int} {c1 c2 : List Tk → Rs Ex} (hc : Sim Z Eqx c1 c2) (x : Tk) (p : Int) {l1 l2 : List Tk} (h : Rl Z l1 l2) (hall : Rl Z (x :: l1) (x.put p :: l2)) : Ot Z (x :: l1).length Eqx (namP q1 c1 (x :: l1)) (namP q2 c2 (x.put p :: l2)) := by
  unfold namP
  rw [List.tail_cons, List.tail_cons, ← h.sg q1 q2 (by decide), ← h.grp q1 q2]
  have e : hd q2 (x.put p :: l2) = x.put p := rfl
  have e' : hd q1 (x :: l1) = x := rfl
  rw [e, e']
  show Ot Z _ _ _ (if (isAggB x.t && _) = true then _ else if (isModB x.t && _) = true then _ else _)
  split
  · exact sim_agg hc x p h
  · split
    · exact Ot.bad
    · split
      · exact sim_call hc x p h
      · exact sim_selP q1 q2 _ _ hall
theorem sim_prm {q1 q2 : Int} {c1 c2 : List Tk → Rs Ex} (hc : Sim Z Eqx c1 c2) : Sim Z Eqx (prmP q1 c1) (prmP q2 c2) := by
  intro l1 l2 h
  rcases h.cases q1 with ⟨hk, _, c, R, rfl, h5, ht⟩ | ⟨x, p, l1', l2', rfl, rfl, hx, h'⟩
  · unfold prmP
    rw [if_neg (by rw [hk]; decide), if_neg (by rw [hk]; decide), sg0 hk, sg0 hk, if_neg (by decide), if_neg (by decide)]
    exact Ot.bad
  · have h1 := sim_nam (q1 := q1) (q2 := q2) hc x p h' h
    have h2 := sim_brk (q1 := q1) (q2 := q2) hc _ _ h
    have h3 := sim_selP q1 q2 _ _ h
    show Ot Z _ _ (if x.k = 2 then .inr (eNum x.p x.o x.n, l1') else if x.k = 1 then namP q1 c1 (x :: l1') else if sg x [40] = true then brkP q1 c1 (x :: l1') else if sg x [123] = true then selP q1 (x :: l1') else .inl _) (if x.k = 2 then .inr (eNum p x.o x.n, l2') else if x.k = 1 then namP q2 c2 (x.put p :: l2') else if sg x [40] = true then brkP q2 c2 (x.put p :: l2') else if sg x [123] = true then selP q2 (x.put p :: l2') else .inl _)
    split
    · exact Ot.good (eqx_num _ _ _ _) h' (by simp)
    · split
      · exact h1
      · split
        · exact h2
        · split
          · exact h3
          · exact Ot.bad
theorem sim_un {q1 q2 : Int} {n1 n2 c1 c2 : List Tk → Rs Ex} (hn : Sim Z Eqx n1 n2) (hc : Sim Z Eqx c1 c2) : Sim Z Eqx (unP q1 n1 c1) (unP q2 n2 c2) := by
  intro l1 l2 h
  unfold unP
  rw [← h.sg q1 q2 (by decide)]
  split
  · exact sim_prm hc _ _ h
  · rename_i hs
    rcases h.cases q1 with ⟨hk, _, c, R, rfl, h5, ht⟩ | ⟨x, p, l1', l2', rfl, rfl, hx, h'⟩
    · exact absurd (sg0 hk) hs
    · refine ((hn _ _ h').mono (m := (x :: l1').length) (by simp)).bnd ?_
      intro a b r s hn ha hr
      exact Ot.good (eqx_neg _ _ ha) hr hn
theorem sim_deep {q : Int} {f : List Tk → Rs Ex} : Sim Z Eqx f (Go.Proofs.YtkppcgimhnocdabGreatDoor.deep q) := fun _ _ _ => Ot.deep
theorem sim_unD (q1 q2 : Int) : ∀ (d2 d1 : Nat), d2 ≤ d1 → Sim Z Eqx (unD q1 d1) (unD q2 d2)
  | 0, d1, _ => by
    rw [unD_eq q1, unD_eq q2]
    exact sim_un sim_deep sim_deep
  | d2 + 1, 0, h => by omega
  | d2 + 1, d1 + 1, h => by
    have ih := sim_unD q1 q2 d2 d1 (by omega)
    exact sim_un ih (sim_cmp ih)
end Go.Proofs.YtkppcgimhnocdabGreatDoor
/- What is read is small enough; its errors, their places; trees that are the same but for places: plain facts. -/
namespace Go.Proofs.YtkppcgimhnocdabGreatDoor
open Go.RowKit

def FT (t : Tk) : Prop := 0 ≤ t.p ∧ t.t.length ≤ 1000000 ∧ -9223372036854775808 ≤ t.n ∧ t.n ≤ 9223372036854775807
theorem mo_ft {x : Mt} (h : MO FT x) : x.name.length ≤ 1000000 ∧ x.text.length ≤ 1000000 := by
  rcases h with ⟨t, ht, _, rfl⟩ | ⟨a, b, c, ha, _, hc, _, _, _, _, rfl⟩
  · exact ⟨by show nmL.length ≤ _; decide, ht.2.1⟩
  · exact ⟨ha.2.1, hc.2.1⟩
theorem once_len {ns : List Str} (h : fewN ns = true) : ns.length ≤ 8 := by
  unfold fewN at h
  rw [Bool.and_eq_true, decide_eq_true_eq] at h
  exact h.1
theorem go_ft {b c : Bool} {ns : List Str} (h : GO FT b c ns) : ns.length ≤ 8 ∧ ∀ x ∈ ns, x.length ≤ 1000000 := by
  rcases h with ⟨_, _, rfl⟩ | ⟨_, hf, hn⟩
  · exact ⟨by simp, fun x hx => by simp at hx⟩
  · refine ⟨once_len hf, fun x hx => ?_⟩
    obtain ⟨t, ht, _, rfl⟩ := hn x hx
    exact ht.2.1
theorem fine_ok : RdOK FT (fun n e => smB e = true ∧ sz e ≤ n) := {
  num := fun t ht _ => by
    unfold eNum
    rw [smB_mk, smBL, sz_mk, szL]
    obtain ⟨_, h2, h3, h4⟩ := ht
    simp [h3, h4]
  sel := fun p m r hm hl _ => by
    unfold eSel
    rw [smB_mk, smBL, sz_mk, szL]
    have h1 : m.all (fun x => decide (x.name.length ≤ 1000000) && decide (x.text.length ≤ 1000000)) = true := by
      rw [List.all_eq_true]
      intro x hx
      have := mo_ft (hm x hx)
      simp [this.1, this.2]
    have h2 : m.length ≤ 1000000 := by omega
    simp [h1, h2]
  call := fun n t a ht _ _ _ ha => by
    unfold eCall
    rw [smB_mk, smBL, smBL, sz_mk, szL, szL, ha.1]
    simp [ht.2.1]
    omega
  agg := fun n t b1 b2 ns a ht _ hg ha => by
    unfold eAgg
    rw [smB_mk, smBL, smBL, sz_mk, szL, szL, ha.1]
    obtain ⟨g1, g2⟩ := go_ft hg
    have h1 : ns.all (fun x => decide (x.length ≤ 1000000)) = true := by
      rw [List.all_eq_true]
      intro x hx
      simp [g2 x hx]
    have h2 : ns.length ≤ 1000000 := by omega
    simp [ht.2.1, h1, h2]
    omega
  bin := fun n m t b3 b4 ns a b ht _ _ hg ha hb => by
    unfold eBin
    rw [smB_mk, smBL, smBL, smBL, sz_mk, szL, szL, szL, ha.1, hb.1]
    obtain ⟨g1, g2⟩ := go_ft hg
    have h1 : ns.all (fun x => decide (x.length ≤ 1000000)) = true := by
      rw [List.all_eq_true]
      intro x hx
      simp [g2 x hx]
    have h2 : ns.length ≤ 1000000 := by omega
    simp [ht.2.1, h1, h2]
    omega
  neg := fun n t a ht ha => by
    unfold eNeg
    rw [smB_mk, smBL, smBL, sz_mk, szL, szL, ha.1]
    simp
    omega }
theorem okt_ft {y : Tk} {p : Int} (h : Okt y) (hp : 0 ≤ p) : FT (y.put p) := by
  rcases h with ⟨s, hs, rfl⟩ | ⟨v, h1, h2, rfl⟩ | ⟨n, h1, h2, rfl⟩ | ⟨s, h1, _, rfl⟩ | ⟨s, hs, rfl⟩
  · have := name_len hs
    exact ⟨hp, by show s.length ≤ _; omega, (by decide : (-9223372036854775808 : Int) ≤ 0), (by decide : (0 : Int) ≤ 9223372036854775807)⟩
  · exact ⟨hp, by simp [Tk.put, tNum], by show _ ≤ v; omega, h2⟩
  · exact ⟨hp, by simp [Tk.put, tDur], (by decide : (-9223372036854775808 : Int) ≤ 0), (by decide : (0 : Int) ≤ 9223372036854775807)⟩
  · exact ⟨hp, by show s.length ≤ _; omega, (by decide : (-9223372036854775808 : Int) ≤ 0), (by decide : (0 : Int) ≤ 9223372036854775807)⟩
  · have := sign_len hs
    exact ⟨hp, by show s.length ≤ _; omega, (by decide : (-9223372036854775808 : Int) ≤ 0), (by decide : (0 : Int) ≤ 9223372036854775807)⟩
theorem okt_k {y : Tk} (h : Okt y) : y.k ≠ 0 := by
  rcases h with ⟨s, _, rfl⟩ | ⟨v, _, _, rfl⟩ | ⟨n, _, _, rfl⟩ | ⟨s, _, _, rfl⟩ | ⟨s, _, rfl⟩ <;> exact fun h => by cases h
theorem sc_toks {s : Str} {l : List Tk} (h : sc s = .inr l) : l.length ≤ s.length ∧ ∀ x ∈ l, ∃ y p, Okt y ∧ x = y.put p ∧ 0 ≤ p := by
  unfold sc at h
  obtain ⟨g1, g2, _⟩ := (scanG_facts s.length (lead s).length (lead s) (Nat.le_refl _) (lead_le s)).2 l h
  have := lead_le s
  refine ⟨by omega, fun x hx => ?_⟩
  obtain ⟨y, p, h1, h2, h3, _⟩ := g2 x hx
  exact ⟨y, p, h1, h2, h3⟩
/-- A text that can be read: its signs, and what is read. -/
theorem ps_good {s : Str} (h : psE s = 0) : s.length ≤ 600 ∧ ∃ l e, sc s = .inr l ∧ rdP (l ++ [tEnd s.length]) = .inr e ∧ psX s = e ∧ scE s = 0 ∧ scL s = l ++ [tEnd s.length] := by
  unfold psE at h
  by_cases he : scE s = 0
  · rw [if_pos he] at h
    have hb : s.length ≤ 600 := by
      by_cases hb : 600 < s.length
      · rw [(sc_big hb).1] at he; cases he
      · omega
    refine ⟨hb, ?_⟩
    rcases sc_cases hb with ⟨p, _, e2, _, _⟩ | ⟨l, e1, _, _, e4⟩
    · rw [e2] at he; cases he
    · rw [e4] at h
      unfold rdE at h
      cases hr : rdP (l ++ [tEnd s.length]) with
      | inl er =>
        rw [hr] at h
        obtain ⟨h1, _⟩ := rd_all (T := fun _ => True) (E := fun _ => True) (X := fun _ _ => True) (fun _ _ => trivial) trivial ⟨fun _ _ _ => trivial, fun _ _ _ _ _ _ => trivial, fun _ _ _ _ _ _ _ _ => trivial, fun _ _ _ _ _ _ _ _ _ _ => trivial, fun _ _ _ _ _ _ _ _ _ _ _ _ _ _ => trivial, fun _ _ _ _ _ => trivial⟩ (l := l ++ [tEnd s.length]) (fun _ _ => trivial)
        have h : er.2 = 0 := h
        have := (h1 er hr).2
        omega
      | inr e => exact ⟨l, e, e1, hr, by unfold psX rdX; rw [if_pos he, e4, hr], he, e4⟩
  · rw [if_neg he] at h
    exact absurd h he
theorem scL_ft (s : Str) : All FT (scL s) := by
  by_cases hb : 600 < s.length
  · rw [(sc_big hb).2.2]
    intro t ht
    simp at ht
  · rcases sc_cases (s := s) (by omega) with ⟨p, _, _, _, e4⟩ | ⟨l, e1, _, _, e4⟩
    · rw [e4]
      intro t ht
      simp at ht
    · rw [e4]
      intro t ht
      rcases List.mem_append.1 ht with ht | ht
      · obtain ⟨y, p, h1, rfl, h3⟩ := (sc_toks e1).2 t ht
        exact okt_ft h1 h3
      · simp at ht
        subst ht
        exact ⟨by show (0 : Int) ≤ (s.length : Nat); omega, by simp [tEnd], by show (-9223372036854775808 : Int) ≤ 0; decide, by show (0 : Int) ≤ 9223372036854775807; decide⟩
/-- What is read of whatever text is small enough, and its place is none below nought. -/
theorem ps_fine (s : Str) : smB (psX s) = true ∧ sz (psX s) ≤ s.length + 1 ∧ 0 ≤ psA s := by
  have h0 : smB ex0 = true ∧ sz ex0 ≤ s.length + 1 := by
    unfold ex0
    rw [smB_mk, smBL, sz_mk, szL]
    simp
  unfold psX psA
  by_cases he : scE s = 0
  · rw [if_pos he, if_pos he]
    obtain ⟨r1, r2⟩ := rd_all (T := FT) (E := fun p => 0 ≤ p) (fun t ht => ht.1) (by decide) fine_ok (scL_ft s)
    have hl := (scL_facts s).1
    unfold rdX rdA
    cases hr : rdP (scL s) with
    | inl er => exact ⟨h0.1, h0.2, (r1 er hr).1⟩
    | inr e =>
      obtain ⟨k, ⟨a, b⟩, c⟩ := r2 e hr
      exact ⟨a, by show sz e ≤ _; omega, by show (0 : Int) ≤ 0; decide⟩
  · rw [if_neg he, if_neg he]
    exact ⟨h0.1, h0.2, (scL_facts s).2.2.1⟩
/-! ### The same, but for places -/
theorem msEq_refl : ∀ m, msEq m m = true
  | [] => by simp [msEq]
  | x :: m => by rw [msEq, msEq_refl m]; simp [mEq]
theorem strL_len : ∀ l, (strL l).length = l.length
  | [] => by rw [strL]
  | x :: l => by rw [strL, List.length_cons, List.length_cons, strL_len l]
theorem smL_of : ∀ (l m : List Ex), (∀ x ∈ l, ∀ y, str x = str y → smE x y = true) → strL l = strL m → smL l m = true
  | [], [], _, _ => by rw [smL]
  | [], y :: m, _, h => by rw [strL, strL] at h; cases h
  | x :: l, [], _, h => by rw [strL, strL] at h; cases h
  | x :: l, y :: m, hi, h => by
    rw [strL, strL] at h
    injection h with h1 h2
    rw [smL, hi x (by simp) y h1, smL_of l m (fun z hz => hi z (by simp [hz])) h2]
    rfl
theorem smE_of (a : Ex) : ∀ (b : Ex), str a = str b → smE a b = true := by
  refine Ex.ind (fun a => ∀ b, str a = str b → smE a b = true) ?_ a
  rintro ⟨k, p, o, v, s, m, r, b1, b2, b3, b4, ns, ks⟩ ih ⟨k', p', o', v', s', m', r', b1', b2', b3', b4', ns', ks'⟩ h
  rw [str_mk, str_mk] at h
  injection h with h1 h2 h3 h4 h5 h6 h7 h8 h9 h10 h11 h12 h13
  subst h1 h3 h4 h5 h6 h7 h8 h9 h10 h11 h12
  rw [smE_mk, smL_of ks ks' ih h13]
  simp [alk, nEq, msEq_refl]
theorem smE_eqx {a b : Ex} (h : Eqx a b) : smE a b = true := smE_of a b h
end Go.Proofs.YtkppcgimhnocdabGreatDoor
/- Brackets round a text: plain facts. -/
namespace Go.Proofs.YtkppcgimhnocdabGreatDoor
open Go.RowKit

def brT (s : Str) : Nat → Str
  | 0 => s
  | k + 1 => 40 :: (brT s k ++ [41])
theorem brT_len (s : Str) : ∀ k, (brT s k).length = s.length + 2 * k
  | 0 => rfl
  | k + 1 => by rw [brT]; simp [brT_len s k]; omega
def Ops (O : List Tk) : Prop := ∀ o ∈ O, o.k = 5 ∧ o.t = [40]
def Cls (C : List Tk) : Prop := ∀ c ∈ C, c.k = 5 ∧ c.t = [41]
theorem map_put_sh (l : List Tk) (q : Int) : (l.map (sh q)).map (Tk.put · 0) = l.map (Tk.put · 0) := by
  rw [List.map_map]
  rfl
theorem brT_sc {s : Str} {l : List Tk} (h : sc s = .inr l) : ∀ k, ∃ O L C, sc (brT s k) = .inr (O ++ (L ++ C)) ∧ O.length = k ∧ C.length = k ∧ Ops O ∧ Cls C ∧ l.map (Tk.put · 0) = L.map (Tk.put · 0)
  | 0 => ⟨[], l, [], by simpa [brT] using h, rfl, rfl, fun _ h => (by simp at h), fun _ h => (by simp at h), rfl⟩
  | k + 1 => by
    obtain ⟨O, L, C, h1, h2, h3, h4, h5, h6⟩ := brT_sc h k
    obtain ⟨o, c, g1, g2, g3, g4, g5⟩ := sc_round h1
    refine ⟨o :: O.map (sh 1), L.map (sh 1), C.map (sh 1) ++ [c], ?_, by simp [h2], by simp [h3], ?_, ?_, ?_⟩
    · rw [brT, g1]
      simp
    · intro x hx
      rcases List.mem_cons.1 hx with rfl | hx
      · exact ⟨g2, g3⟩
      · obtain ⟨y, hy, rfl⟩ := List.mem_map.1 hx
        exact h4 y hy
    · intro x hx
      rcases List.mem_append.1 hx with hx | hx
      · obtain ⟨y, hy, rfl⟩ := List.mem_map.1 hx
        exact h5 y hy
      · simp at hx
        subst hx
        exact ⟨g4, g5⟩
    · rw [map_put_sh]
      exact h6
/-- No operator stands there. -/
def Stp (q : Int) (R : List Tk) : Prop := (hd q R).k = 0 ∨ (hd q R).t = [41]
theorem Stp.op {q : Int} {R : List Tk} (h : Stp q R) {lev : Int} (hl : 1 ≤ lev) : isOp q lev R = false := by
  unfold isOp
  rcases h with h | h
  · rw [h]; rfl
  · rw [h, show lv [41] = 0 by decide, show ((0 : Int) == lev) = false by rw [beq_eq_false_iff_ne]; omega, Bool.and_false]
theorem ch_stop {q lev : Int} (hl : 1 ≤ lev) {u : List Tk → Rs Ex} {l R : List Tk} {e : Ex} (h : u l = .inr (e, R)) (hR : Stp q R) : chP q lev u l = .inr (e, R) := by
  unfold chP
  rw [h]
  show chF q lev u (R.length + 1) e R = _
  rw [chF, if_pos (hR.op hl)]
theorem ch_bad {q lev : Int} {u : List Tk → Rs Ex} {l : List Tk} {er : Er} (h : u l = .inl er) : chP q lev u l = .inl er := by
  unfold chP
  rw [h]
  rfl
theorem cmp_stop {q : Int} {u : List Tk → Rs Ex} {l R : List Tk} {e : Ex} (h : u l = .inr (e, R)) (hR : Stp q R) : cmpP q u l = .inr (e, R) :=
  ch_stop (by decide) (ch_stop (by decide) (ch_stop (by decide) h hR) hR) hR
theorem cmp_bad {q : Int} {u : List Tk → Rs Ex} {l : List Tk} {er : Er} (h : u l = .inl er) : cmpP q u l = .inl er := ch_bad (ch_bad (ch_bad h))
theorem un_open {q : Int} {d : Nat} {o : Tk} (h5 : o.k = 5) (ht : o.t = [40]) (l : List Tk) : unD q (d + 1) (o :: l) = brkP q (cmpP q (unD q d)) (o :: l) := by
  have e1 : sg o [45] = false := by unfold sg; rw [h5, ht]; decide
  have e2 : sg o [40] = true := by unfold sg; rw [h5, ht]; decide
  show unP q _ _ (o :: l) = _
  unfold unP
  rw [if_pos (show sg (hd q (o :: l)) [45] = false from e1)]
  unfold prmP
  rw [if_neg (show ¬ (hd q (o :: l)).k = 2 by show ¬ o.k = 2; rw [h5]; decide), if_neg (show ¬ (hd q (o :: l)).k = 1 by show ¬ o.k = 1; rw [h5]; decide), if_pos (show sg (hd q (o :: l)) [40] = true from e2)]
theorem brk_open {q : Int} {o : Tk} (h5 : o.k = 5) (ht : o.t = [40]) (c : List Tk → Rs Ex) (l : List Tk) : brkP q c (o :: l) = bnd (c l) fun x => if sg (hd q x.2) [41] = true then .inr (x.1, x.2.tail) else .inl (bad q x.2 71) := by
  have e2 : sg o [40] = true := by unfold sg; rw [h5, ht]; decide
  unfold brkP
  rw [if_neg (show ¬ sg (hd q (o :: l)) [40] = false by show ¬ sg o [40] = false; rw [e2]; decide)]
  rfl
theorem wrap {q : Int} {d : Nat} : ∀ (k : Nat) (O L C R : List Tk), O.length = k → C.length = k → Ops O → Cls C → Stp q R → (∀ e, cmpP q (unD q d) (L ++ (C ++ R)) = .inr (e, C ++ R) → cmpP q (unD q (d + k)) (O ++ (L ++ (C ++ R))) = .inr (e, R)) ∧ ∀ er, cmpP q (unD q d) (L ++ (C ++ R)) = .inl er → cmpP q (unD q (d + k)) (O ++ (L ++ (C ++ R))) = .inl er
  | 0, O, L, C, R, hO, hC, _, _, _ => by
    obtain rfl := List.eq_nil_of_length_eq_zero hO
    obtain rfl := List.eq_nil_of_length_eq_zero hC
    exact ⟨fun e h => h, fun er h => h⟩
  | k + 1, O, L, C, R, hO, hC, h1, h2, hR => by
    obtain ⟨o, O, rfl⟩ : ∃ o O', O = o :: O' := by
      cases O with
      | nil => simp at hO
      | cons o O => exact ⟨o, O, rfl⟩
    obtain ⟨C, c, rfl⟩ : ∃ C' c, C = C' ++ [c] := ⟨C.dropLast, C.getLast (by rintro rfl; simp at hC), (List.dropLast_concat_getLast _).symm⟩
    obtain ⟨h5, ht⟩ := h1 o (by simp)
    obtain ⟨c5, ct⟩ := h2 c (by simp)
    have hR' : Stp q (c :: R) := Or.inr ct
    obtain ⟨i1, i2⟩ := wrap (q := q) (d := d) k O L C (c :: R) (by simpa using hO) (by simpa using hC) (fun x hx => h1 x (by simp [hx])) (fun x hx => h2 x (by simp [hx])) hR'
    have e : C ++ [c] ++ R = C ++ c :: R := by simp
    rw [e]
    have ec : sg c [41] = true := by unfold sg; rw [c5, ct]; decide
    refine ⟨fun e h => ?_, fun er h => ?_⟩
    · refine cmp_stop ?_ hR
      show unD q (d + k + 1) (o :: (O ++ (L ++ (C ++ c :: R)))) = _
      rw [un_open h5 ht, brk_open h5 ht, i1 e h]
      show (if sg (hd q (c :: R)) [41] = true then _ else _) = _
      rw [if_pos (show sg (hd q (c :: R)) [41] = true from ec)]
      rfl
    · refine cmp_bad ?_
      show unD q (d + k + 1) (o :: (O ++ (L ++ (C ++ c :: R)))) = _
      rw [un_open h5 ht, brk_open h5 ht, i2 er h]
      rfl
/-- A text that can be read, in brackets, is read as the same, or is nested too deep. -/
theorem brk_read {s : Str} {l : List Tk} {e : Ex} {k : Nat} (hs : sc s = .inr l) (h0 : ∀ x ∈ l, x.k ≠ 0) (hl : s.length + 2 * k ≤ 600) (hk1 : 1 ≤ k) (hk : k ≤ 15) (hr : rdP (l ++ [tEnd s.length]) = .inr e) : scE (brT s k) = 0 ∧ ((∃ e', rdP (scL (brT s k)) = .inr e' ∧ Eqx e e') ∨ ∃ p, rdP (scL (brT s k)) = .inl (p, 72)) := by
  obtain ⟨O, L, C, g1, g2, g3, g4, g5, g6⟩ := brT_sc hs k
  have hlen := brT_len s k
  obtain ⟨e1, _, e3⟩ := sc_ok (s := brT s k) (by omega) g1
  refine ⟨e1, ?_⟩
  rw [e3]
  unfold rdP
  generalize endP (O ++ (L ++ C) ++ [tEnd (brT s k).length]) = q2
  have hE : (tEnd (brT s k).length).k = 0 := rfl
  generalize tEnd (brT s k).length = E2 at *
  unfold rdP at hr
  generalize endP (l ++ [tEnd s.length]) = q1 at hr
  unfold whP at hr
  cases hc : cmpP q1 (unD q1 15) (l ++ [tEnd s.length]) with
  | inl er => rw [hc] at hr; cases hr
  | inr x =>
    obtain ⟨x, r⟩ := x
    rw [hc] at hr
    have hr : (if (hd q1 r).k = 0 then .inr x else .inl (bad q1 r 71)) = (Sum.inr e : Er ⊕ Ex) := hr
    have hz : (hd q1 r).k = 0 := by
      by_cases hz : (hd q1 r).k = 0
      · exact hz
      · rw [if_neg hz] at hr; cases hr
    rw [if_pos hz] at hr
    injection hr with hr
    subst hr
    have hE2 : E2.k = 0 := hE
    have hrl : Rl (C ++ [E2]) (l ++ [tEnd s.length]) (L ++ (C ++ [E2])) := by
      refine ⟨l, L, [tEnd s.length], C ++ [E2], rfl, rfl, g6, h0, Or.inr ⟨_, rfl, rfl⟩, rfl, ?_⟩
      cases C with
      | nil => simp at g3; omega
      | cons c C => exact ⟨c, C ++ [E2], rfl, g5 c (by simp)⟩
    have hw := wrap (q := q2) (d := 15 - k) k O L C [E2] g2 g3 g4 g5 (Or.inl hE2)
    rw [show 15 - k + k = 15 by omega] at hw
    have ea : O ++ (L ++ C) ++ [E2] = O ++ (L ++ (C ++ [E2])) := by simp
    unfold whP
    rw [ea]
    rcases sim_cmp (q1 := q1) (q2 := q2) (sim_unD q1 q2 (15 - k) 15 (by omega)) _ _ hrl x r hc with ⟨_, e2, r2, f1, f2, f3⟩ | ⟨p, f1⟩
    · obtain rfl := f3.rest hz
      refine Or.inl ⟨e2, ?_, f2⟩
      rw [hw.1 e2 f1]
      show (if (hd q2 [E2]).k = 0 then _ else _) = _
      rw [if_pos (show (hd q2 [E2]).k = 0 from hE2)]
    · refine Or.inr ⟨p, ?_⟩
      rw [hw.2 _ f1]
      rfl
end Go.Proofs.YtkppcgimhnocdabGreatDoor
/- Brackets round an expression change nothing but places. -/
namespace Go.Proofs.YtkppcgimhnocdabGreatDoor
open Go.RowKit

theorem brackets_read (s : Str) (k : Nat) (hk : k ≤ 3) (hl : s.length ≤ 200) (h : psE s = 0) : (psE (brT s k) = 0 ∧ smE (psX s) (psX (brT s k)) = true) ∨ psE (brT s k) = 72 := by
  by_cases hk0 : k = 0
  · subst hk0
    exact Or.inl ⟨h, smE_of _ _ rfl⟩
  · obtain ⟨h6, l, e, h1, h2, h3, h4, h5⟩ := ps_good h
    obtain ⟨g1, g2⟩ := brk_read (k := k) h1 (fun x hx => by
      obtain ⟨y, p, ho, rfl, _⟩ := (sc_toks h1).2 x hx
      exact (okt_k ho : y.k ≠ 0)) (by omega) (by omega) (by omega) h2
    rcases g2 with ⟨e', r1, r2⟩ | ⟨p, r1⟩
    · refine Or.inl ⟨?_, ?_⟩
      · unfold psE rdE
        rw [if_pos g1, r1]
      · have : psX (brT s k) = e' := by
          unfold psX rdX
          rw [if_pos g1, r1]
        rw [this, h3]
        exact smE_eqx r2
    · refine Or.inr ?_
      unfold psE rdE
      rw [if_pos g1, r1]
set_option maxHeartbeats 8000000 in
set_option maxRecDepth 20000 in
theorem brackets_any (s : Str) (n : Nat) (w : World) (hs0 : s.length ≤ 9223372036854775807) (hn : n ≤ 255) (he : Ev w) : Calls Tryz.prog 5 #[tx s, .int .u8 n] w fun e w' => e = .returned (.bool true) ∧ Below w.heap.size w w' := by
  have hkn := known_any w he
  by_cases h3 : s.length ≤ 200
  · have h3' : ¬ (200 : Int) < s.length := by omega
    have hps := fun W hE => parse_any s W (by omega) hE
    have HB : Hid (psE s = 0 → (psE (brT s (n % 4)) = 0 ∧ smE (psX s) (psX (brT s (n % 4))) = true) ∨ psE (brT s (n % 4)) = 72) := brackets_read s (n % 4) (by omega) h3
    have hl1 := brT_len s (n % 4)
    have hps2 := fun W hE => parse_any (brT s (n % 4)) W (by omega) hE
    have f1 := (ps_fine s).2.2
    have f2 := (ps_fine (brT s (n % 4))).2.2
    have hsm := (smB_ok _ (ps_fine s).1).1
    have hm : (n : Int) % 4 = ((n % 4 : Nat) : Int) := by omega
    have hk3 : n % 4 ≤ 3 := by omega
    have hsame := fun P P' W ca cb => same_ok (P := P) (P' := P') (psX s) (psX (brT s (n % 4))) hsm W ca cb
    obtain ⟨k, HK⟩ : ∃ k, Hid (n % 4 = k) := ⟨_, rfl⟩
    rw [HK.out] at HB hl1 hps2 f2 hm hk3 hsame
    go_enter Tryz.func5, Tryz.ntmps5
    go_wp2_with fail
    refine hkn.mono ?_
    rintro e w1 ⟨rfl, b1⟩
    clear hs0
    go_wp2_with fail
    go_loopw [5, 6] (fun t i wr => ∃ j : Nat, j ≤ k ∧ t = tx (brT s j) ∧ i = .int .i64 j ∧ w1 = wr) (fun _ i _ => k - (intOf i).toNat)
    case atStart => exact ⟨0, by omega, rfl, rfl, rfl⟩
    case round =>
      obtain ⟨j, hj, rfl, rfl, rfl⟩ := hrel
      have hlj := brT_len s j
      by_cases hlt : j < k
      · have hlt' : (j : Int) < k := by omega
        obtain ⟨R, HR⟩ : ∃ R : Str, Hid (brT s j = R) := ⟨_, rfl⟩
        have hR : R.length ≤ 210 := by rw [← HR.out]; omega
        rw [HR.out]
        clear hlj
        go_wp2_with (refine wp_add rfl 9 9 _ _ rfl _ _ rfl rfl (by simp <;> omega) ?_)
        go_roundw
        case rel => exact ⟨j + 1, by omega, by rw [brT, HR.out], by go_num, trivial⟩
        case measure => simp [intOf]; omega
      · have hlt' : ¬ (j : Int) < k := by omega
        obtain rfl : j = k := by omega
        obtain ⟨R, HR⟩ : ∃ R : Str, Hid (brT s j = R) := ⟨_, rfl⟩
        rw [HR.out] at hps2 HB f2 hsame ⊢
        clear hl1 hlj
        generalize psX s = X at *
        generalize psA s = pa at *
        generalize psX R = Y at *
        generalize psA R = pb at *
        generalize hsY : smE X Y = sY at *
        have HS : Hid (smE X Y = sY) := hsY
        clear hsY
        go_wp2_with fail
        refine (hps w1 (he.later b1)).mono ?_
        rintro e w3 ⟨cs, rfl, t3, b3⟩
        have row := t3.row
        have B3 := b1.trans (b3.mono b1.size)
        have q3 := heap_new w3 (.cells zE 32)
        have zB3 := B3.size
        have T3 : Hid _ := t3
        obtain ⟨vm, vn, ao, cap, ecs, sm, sn, _, _⟩ := t3.parts
        obtain ⟨am, cm, rfl, _⟩ := sm
        obtain ⟨an, cn, rfl, _⟩ := sn
        subst ecs
        clear hps
        go_upto_region 11 with (refine wp_put rfl 32 _ _ rfl w3.heap.size (exA X.k X.p X.o X.v X.s (.slice am X.m.length cm) X.r X.b1 X.b2 X.b3 X.b4 (.slice an X.ns.length cn) (.slice ao X.ks.length cap)) rfl rfl _ 32 q3 13 inf29 rfl row ?_; intro w4 q4 o4 z4; clear z4)
        have D4 : Below w3.heap.size w3 w4 := ((Off.of (bal (Below.refl w3.heap.size w3) (.cells zE 32)) []).trans o4 (by simp)).below (by simp)
        have B4 := B3.trans (D4.mono B3.size)
        go_wp2_with fail
        refine (hps2 w4 (he.later B4)).mono ?_
        rintro e w5 ⟨cs', rfl, t5, b5⟩
        have row' := t5.row
        have B5 := B4.trans (b5.mono B4.size)
        have D5 := D4.trans (b5.mono D4.size)
        have q5 := below_heap b5 q4
        have q6 := heap_new w5 (.cells zE 32)
        have q5' := below_heap (bal (Below.refl w5.heap.size w5) (.cells zE 32)) q5
        have hlt := lt_of_heap q5
        have T5 : Hid _ := t5
        obtain ⟨vm', vn', ao', cap', ecs', sm', sn', _, _⟩ := t5.parts
        obtain ⟨am', cm', rfl, _⟩ := sm'
        obtain ⟨an', cn', rfl, _⟩ := sn'
        subst ecs'
        clear hps2 q4 o4
        by_cases h0 : psE s = 0
        · rcases HB.out h0 with ⟨g1, g2⟩ | g1
          · subst g2
            rw [h0, g1]
            clear HB h0 g1 HS
            go_wp2_with (refine wp_put rfl 32 _ _ rfl w5.heap.size (exA Y.k Y.p Y.o Y.v Y.s (.slice am' Y.m.length cm') Y.r Y.b1 Y.b2 Y.b3 Y.b4 (.slice an' Y.ns.length cn') (.slice ao' Y.ks.length cap')) rfl rfl _ 32 q6 13 inf29 rfl row' ?_; intro w6 r6 o6 z6; clear z6; have p6 := o6.heap q5' (by simp <;> omega); have x0 := (cell_at p6 0).trans rfl; have x1 := (cell_at p6 1).trans rfl; have x2 := (cell_at p6 2).trans rfl; have x3 := (cell_at p6 3).trans rfl; have x4 := (cell_at p6 4).trans rfl; have x5 := (cell_at p6 5).trans rfl; have x6 := (cell_at p6 6).trans rfl; have x7 := (cell_at p6 7).trans rfl; have x8 := (cell_at p6 8).trans rfl; have x9 := (cell_at p6 9).trans rfl; have x10 := (cell_at p6 10).trans rfl; have x11 := (cell_at p6 11).trans rfl; have x12 := (cell_at p6 12).trans rfl; have y0 := (cell_at r6 0).trans rfl; have y1 := (cell_at r6 1).trans rfl; have y2 := (cell_at r6 2).trans rfl; have y3 := (cell_at r6 3).trans rfl; have y4 := (cell_at r6 4).trans rfl; have y5 := (cell_at r6 5).trans rfl; have y6 := (cell_at r6 6).trans rfl; have y7 := (cell_at r6 7).trans rfl; have y8 := (cell_at r6 8).trans rfl; have y9 := (cell_at r6 9).trans rfl; have y10 := (cell_at r6 10).trans rfl; have y11 := (cell_at r6 11).trans rfl; have y12 := (cell_at r6 12).trans rfl)
            have D6 : Below w5.heap.size w5 w6 := ((Off.of (bal (Below.refl w5.heap.size w5) (.cells zE 32)) []).trans o6 (by simp)).below (by simp)
            have B6 := B5.trans (D6.mono B5.size)
            refine (hsame _ _ w6 _ _ (TrP.later T3.out (D5.trans (D6.mono D5.size))) (TrP.later T5.out D6)).mono ?_
            rintro e w7 ⟨rfl, b7⟩
            go_wp2_with fail
            go_ret
            exact ⟨by simp, B6.trans (b7.mono B6.size)⟩
          · rw [h0, g1]
            clear HB h0 g1 HS hsame
            go_wp2_with (refine wp_put rfl 32 _ _ rfl w5.heap.size (exA Y.k Y.p Y.o Y.v Y.s (.slice am' Y.m.length cm') Y.r Y.b1 Y.b2 Y.b3 Y.b4 (.slice an' Y.ns.length cn') (.slice ao' Y.ks.length cap')) rfl rfl _ 32 q6 13 inf29 rfl row' ?_; intro w6 r6 o6 z6; clear z6)
            have D6 : Below w5.heap.size w5 w6 := ((Off.of (bal (Below.refl w5.heap.size w5) (.cells zE 32)) []).trans o6 (by simp)).below (by simp)
            have B6 := B5.trans (D6.mono B5.size)
            go_ret
            exact ⟨by simp, B6⟩
        · have h0' : (psE s != 0) = true := by rw [bne_iff_ne]; exact h0
          clear HB h0 HS hsame
          generalize psE s = vE at *
          generalize psE R = vF at *
          have f1' : (0 : Int) ≤ pa := f1
          go_wp2_with (refine wp_put rfl 32 _ _ rfl w5.heap.size (exA Y.k Y.p Y.o Y.v Y.s (.slice am' Y.m.length cm') Y.r Y.b1 Y.b2 Y.b3 Y.b4 (.slice an' Y.ns.length cn') (.slice ao' Y.ks.length cap')) rfl rfl _ 32 q6 13 inf29 rfl row' ?_; intro w6 r6 o6 z6; clear z6)
          have D6 : Below w5.heap.size w5 w6 := ((Off.of (bal (Below.refl w5.heap.size w5) (.cells zE 32)) []).trans o6 (by simp)).below (by simp)
          have B6 := B5.trans (D6.mono B5.size)
          go_ret
          exact ⟨by simp, B6⟩
  · have h3' : (200 : Int) < s.length := by omega
    go_enter Tryz.func5, Tryz.ntmps5
    go_wp2_with fail
    refine hkn.mono ?_
    rintro e w1 ⟨rfl, b1⟩
    go_wp2_with fail
    go_ret
    exact ⟨rfl, b1⟩
end Go.Proofs.YtkppcgimhnocdabGreatDoor
/- ExprBrackets: for every input the law returns true, and its arguments read as they did: the row, and its card, tied to the program's text. Conditions: none beyond the card's own. -/
namespace Go.Proofs.YtkppcgimhnocdabGreatDoor.exprBracketsRow
open Go.ChangeShapes Go.WideShapes Go.ChangeAt Go.RowKit Go.Joins Go.ChangeMaps

theorem own : ownKnob Tryz.prog.godebug = none := by kernel_rfl
set_option maxRecDepth 100000 in
theorem lifted (os : Os) (started : os.Started) (H : Type) (enc : TypeId × Value → H) :
    ReturnsInHanded {} Tryz.checked os 5 .any (fun w args => (Rows.exprBracketsSpec.pre enc Tryz.prog Tryz.f5 Rows.exprBracketsRow.domain false w args ∧ laidMetH Tryz.prog Rows.exprBracketsRow.laid w) ∧ sizedMet enc Tryz.prog Tryz.f5 (OpenSpec.ofChange Rows.exprBracketsSpec) false w args)
      (Rows.exprBracketsSpec.post enc Tryz.prog Tryz.f5 false true false false) := by
  refine lift_env (fun _ _ _ hh h => h.of_heap hh) (C := Tryz.checked) (X := fun w _ => laidMetH Tryz.prog Rows.exprBracketsRow.laid w) own started (by kernel_rfl) Tryz.func5
    (ChangeSpec.witness_shaped (enc := enc) (C := Tryz.checked) (os := os) (X := fun w _ => laidMetH Tryz.prog Rows.exprBracketsRow.laid w) false (World.laidAll Tryz.prog os Rows.exprBracketsRow.laid) #[.string ⟨#[]⟩, .int .u8 0] 8 (World.laidAll_os _ _ _)
      (World.shaped_of_ZipB (by kernel_rfl) (by kernel_rfl)) (by kernel_rfl) (by kernel_rfl) (by kernel_rfl)
      (by rw [MakeChecks.laidMetH_plain _ _ _ (by kernel_rfl)]; exact laidMet_laidAll _ (by kernel_rfl) (by kernel_rfl))) ?_
  intro W base args ds gs before hval0 hW hsh hL
  have hval : ∀ (j : Nat) t v, Tryz.f5.params[j]? = some t → args[j]? = some v → Value.okWide Tryz.prog W .any base t v := hval0
  have hW' := hW
  obtain ⟨p, q, hA0, hV, rfl, hfz, hnd⟩ := hW
  have hA : DataW.TrodAll enc Tryz.prog W 0 (fun _ => true) true Tryz.f5.params.toList args.toList ds p := hA0
  rw [Tryz.params5] at hA hval
  obtain ⟨v0, vs0, d0, ds0, p0, q0, hargs, rfl, rfl, h0, r0⟩ := trodAll_cons hA
  obtain ⟨v1, vs1, d1, ds1, p1, q1, rfl, rfl, rfl, h1, r1⟩ := trodAll_cons r0
  obtain ⟨rfl, rfl, rfl⟩ := trodAll_nil r1
  obtain rfl : args = #[v0, v1] := by cases args; simp_all
  obtain ⟨rfl, rfl⟩ := trodVars_none hV
  obtain ⟨s0, rfl, rfl, rfl, w0⟩ := open_string Tryz.underlying9 (hval 0 9 v0 rfl rfl) h0
  obtain ⟨l0, rfl, ln0⟩ := tx_of s0
  have b0 : l0.length ≤ 9223372036854775807 := by rw [ln0]; unfold maxLen at w0; omega
  obtain ⟨n1, rfl, rfl, rfl, w1⟩ := open_int Tryz.underlying5 (hval 1 5 v1 rfl rfl) h1
  have b1 : 0 ≤ n1 ∧ n1 ≤ 255 := by simpa [Lit.wf, IntKind.min, IntKind.max, IntKind.signed, IntKind.bits] using w1
  obtain ⟨N1, rfl⟩ : ∃ N : Nat, n1 = N := ⟨n1.toNat, by omega⟩
  clear hA0 hval0
  simp only [List.append_nil] at hW'
  refine (brackets_any l0 N1 W b0 (by omega)   (env_of hsh hL)).mono fun e W' ⟨he, hg⟩ => ?_
  subst he
  exact ⟨_, rfl, _, _, _, [], [], [], hW', trodAll_mk1 (shut_bool Tryz.underlying4 _), (trodAll_cons_mk (shut_string Tryz.underlying9 w0) (trodAll_cons_mk (shut_int Tryz.underlying5 w1) trodAll_mk0)), rfl, hg.frame _, fun h => by cases h⟩

theorem holds : Rows.ExprBracketsSaid :=
  OpenClaim.holds_of_wide 5 Tryz.f5 rfl rfl rfl rfl rfl rfl rfl ⟨rfl, rfl, rfl, rfl, rfl⟩ rfl rfl rfl rfl rfl (by kernel_rfl) Tryz.func5 (by kernel_rfl)
    (of_decide_eq_true (by kernel_rfl)) (by unfold Func.isWrapper; first | (rw [if_pos (by decide +kernel)]; kernel_rfl) | (rw [if_neg (by decide +kernel)]; exact ⟨rfl, rfl⟩))
    (fun os started H enc _ => lifted os started H enc)
end Go.Proofs.YtkppcgimhnocdabGreatDoor.exprBracketsRow
namespace Go.Proofs.YtkppcgimhnocdabGreatDoor
open Go
theorem exprBrackets_card : Rows.ExprBracketsCardSaid :=
  Claim7.holds_tied_plain_at .later [] [.data, .data, .data, .data, .sentinel, .sentinel, .pinned] true (true, "de27a6e6fe403ccb34f493b4989840ed7712091a63239ac79da314bb4edb8d8c") true exprBracketsRow.holds (fun _ h => by cases h) (by kernel_rfl) (fun _ h => by cases h) exprBrackets_row_tie rfl ⟨rfl, rfl⟩ (by kernel_rfl) rfl
    (fun f fn hf hfn => by
      obtain rfl : f = 5 := Option.some.inj ((show Tryz.prog.funcNamed "spillway/spillwaylaw8.ExprBrackets" = some 5 by kernel_rfl).symm.trans hf) |>.symm
      obtain rfl : fn = Tryz.f5 := (Option.some.inj (Tryz.func5.symm.trans hfn)).symm
      exact ⟨by kernel_rfl, fun j t ht => by
        rw [Tryz.params5] at ht
        have hm : t ∈ [9, 5] := by simpa using Array.mem_of_getElem? ht
        have hall : ([9, 5].all fun u => !Tryz.prog.wantsStandIn u) = true := by kernel_rfl
        exact (show Tryz.prog.wantsStandIn t = false by simpa using List.all_eq_true.1 hall t hm)⟩)
    (by kernel_rfl)
end Go.Proofs.YtkppcgimhnocdabGreatDoor
