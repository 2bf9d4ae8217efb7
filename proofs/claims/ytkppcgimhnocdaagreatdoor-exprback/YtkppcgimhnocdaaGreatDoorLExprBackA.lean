/- ExprBack: for every input the law returns true, and its arguments read as they did: the row, and its card, tied to the program's text. Conditions: none beyond the card's own. -/
import Derived.Test.YtkppcgimhnocdaaGreatDoorMB
import Derived.Test.YtkppcgimhnocdaaGreatDoorRows
import Derived.ProofKit
import Derived.OpenShut
import Derived.LaidMore
import Derived.Lay
import Derived.SevenTiedAt
import Derived.Stop.Joined
import Derived.Lib.SmallJoins
import Derived.Lib.LaidTab
import Derived.Stop.LaidErr
import Derived.ChangeMaps5
import Derived.Deep.SlicePairs
import Derived.SliceStrings
import Derived.HandedShaped
import Derived.Shelf.Vars
import Derived.Test.YtkppcgimhnocdaaGreatDoorMX
import Derived.Test.YtkppcgimhnocdaaGreatDoorMO
import Derived.Test.YtkppcgimhnocdaaGreatDoorMS
import Derived.Test.YtkppcgimhnocdaaGreatDoorTie
import Derived.Test.YtkppcgimhnocdaaGreatDoorCards
/- What is handed in: slices of texts, of bytes out of their readings; what the library's variables hold when a call begins. -/
namespace Go.Proofs.YtkppcgimhnocdaaGreatDoor
open Go.ChangeShapes Go.WideShapes Go.ChangeAt Go.RowKit Go.Deep

theorem laidOut : laidOutB Tryz.prog = true := by kernel_rfl
theorem mx_of {W : World} (h : W.ShapedOpen Tryz.prog) : Mx W :=
  cell_of_shapedOpen_int (g := 3) (t := 3) (zero := #[.int .i64 0]) (k := .i64) h (of_decide_eq_true (by kernel_rfl)) (by kernel_rfl) rfl (by kernel_rfl) (by kernel_rfl) Tryz.underlying3
theorem tx_of (s : ByteArray) : ∃ l : Str, (⟨l.toArray⟩ : ByteArray) = s ∧ l.length = s.size := ⟨s.data.toList, Lib.mk_data s, by rw [Array.length_toList]; rfl⟩
def Ns (w : World) (ao : Option Addr) (n : Nat) (l : List UInt8) : Prop :=
  l.length = n ∧ (0 < n → ∃ b off, ao = some ⟨b, off, none⟩ ∧ ∀ j, j < n → w.cell? ⟨b, off + j, none⟩ = some (.int .u8 (l.getD j 0).toNat))
theorem bytes_of {H : Type} {enc : TypeId × Value → H} {W : World} {xa : Option Addr} {len cap : Nat} {x : DataW H × List MemPlace}
    (h : ∃ fuel, DataW.trod enc Tryz.prog W 0 (fun _ => true) true fuel 50 (Value.slice xa len cap).cells.toList = some x) :
    ∃ l, Ns W xa len l ∧ len ≤ 9223372036854775807 := by
  obtain ⟨fuel, hf⟩ := h
  rcases open_ints Tryz.underlying50 Tryz.underlying5 (by kernel_rfl) hf with ⟨hcs, hx⟩ | ⟨a, len', cap', zs, hcs, _, hl, hm, hlen, hx, hel, hw⟩
  · simp [Value.cells] at hcs
    obtain ⟨rfl, rfl, rfl⟩ := hcs
    exact ⟨[], ⟨rfl, fun h => by omega⟩, by omega⟩
  · simp [Value.cells] at hcs
    obtain ⟨rfl, rfl, rfl⟩ := hcs
    have hss : len ≤ zs.length := by rw [hlen]; split <;> omega
    refine ⟨(List.range len).map (fun i => UInt8.ofNat (zs.getD i 0).toNat), ⟨by simp, fun hp => ?_⟩, by unfold maxLen at hm; omega⟩
    obtain ⟨b, off, spot⟩ := a
    have hc := hel 0 (by omega)
    have hspot : spot = none := by simpa [Addr.add] using World.cell?_spot hc
    subst hspot
    refine ⟨b, off, rfl, fun j hj => ?_⟩
    have q0 := hel j (by omega)
    rw [Addr.add_lit] at q0
    rw [q0]
    have hm2 : zs.getD j 0 ∈ zs := by
      have hj2 : j < zs.length := by omega
      simp [List.getD, List.getElem?_eq_getElem hj2]
    have hwf := hw _ hm2
    have hb : 0 ≤ zs.getD j 0 ∧ zs.getD j 0 ≤ 255 := by simpa [Lit.wf, IntKind.min, IntKind.max, IntKind.signed, IntKind.bits] using hwf
    have e : ((List.range len).map (fun i => UInt8.ofNat (zs.getD i 0).toNat)).getD j 0 = UInt8.ofNat (zs.getD j 0).toNat := by simp [List.getD, hj]
    rw [e, UInt8.toNat_ofNat']
    congr 2
    omega
theorem lift_env {H : Type} {enc : TypeId × Value → H} {a : Assume} {C : Checked} {os : Os} {f : FuncId} {fn : Func} {s : ChangeSpec} {conds : List PathCond} {apart fresh handsOn again : Bool} {X : World → Array Value → Prop} (hX : ∀ w w' args, w.heap = w'.heap → X w args → X w' args)
    (own : ownKnob C.prog.godebug = none) (started : os.Started) (noInit : C.prog.inits.idxOf? f = none) (hfn : C.prog.funcs[f]? = some fn)
    (witness : ∃ (w : World) (tape : Tape) (i : Input), w.os = os ∧ (w.forCall tape i).Shaped C.prog ∧ i.vars = [] ∧ Input.okWide C.prog (w.forCall tape i) .any w.heap.size f i ∧
      ((s.pre enc C.prog fn conds apart (w.forCall tape i).memory i.args ∧ X (w.forCall tape i).memory i.args) ∧ sizedMet enc C.prog fn (OpenSpec.ofChange s) apart (w.forCall tape i).memory i.args) ∧ a.holds C.prog (lone (Frame.enter C.prog f i.args .normal) [] (w.forCall tape i)))
    (contract : ∀ (W : World) (base : Nat) (args : Array Value) (ds gs : List (DataW H)) (before : List MemPlace),
      (∀ (j : Nat) t v, fn.params[j]? = some t → args[j]? = some v → Value.okWide C.prog W .any base t v) →
      DataW.Whole enc C.prog fn.params.toList s.vars apart W args.toList ds gs before → W.ShapedOpen C.prog → X W args →
      Calls C.prog f args W fun e W' => ∃ v, e = .returned v ∧ s.post enc C.prog fn apart fresh handsOn again W args v W') :
    ReturnsInHanded a C os f .any (fun w args => (s.pre enc C.prog fn conds apart w args ∧ X w args) ∧ sizedMet enc C.prog fn (OpenSpec.ofChange s) apart w args) (s.post enc C.prog fn apart fresh handsOn again) := by
  refine returnsInHanded_of_calls own started noInit witness ?_
  intro w tape i _ hsh _ hok hpre _
  obtain ⟨_, _, _, fn', hfn', _, _, _, _, hval⟩ := hok
  have e : fn' = fn := Option.some.inj (hfn'.symm.trans hfn)
  subst e
  obtain ⟨⟨⟨ds, gs, before, hw, hc⟩, hx⟩, hz⟩ := hpre
  have hw' := DataW.Whole.of_heap (w' := w.forCall tape i) (by rfl) hw
  refine (contract (w.forCall tape i) w.heap.size i.args ds gs before hval hw' hsh (hX _ _ _ (by rfl) hx)).mono fun e W' ⟨v, he, hp⟩ => ?_
  subst he
  exact ChangeSpec.post_blind hp

/-! ### What the library's variables hold when a call begins -/
theorem gES : Tryz.prog.globalNamed "strconv.ErrSyntax" = some 4 := by kernel_rfl
theorem gER : Tryz.prog.globalNamed "strconv.ErrRange" = some 5 := by kernel_rfl
theorem tES : (Tryz.prog.globals[4]?).map (·.type) = some 156 := by kernel_rfl
theorem tER : (Tryz.prog.globals[5]?).map (·.type) = some 156 := by kernel_rfl
theorem c141 : Tryz.prog.cellsOf 243 = 1 := by kernel_rfl
theorem c9 : Tryz.prog.cellsOf 9 = 1 := by kernel_rfl
theorem starE : "*" ++ "errors.errorString" = "*errors.errorString" := by decide
theorem rowES (u : TypeId) (h : Tryz.prog.typeName? 3 u = some "*errors.errorString") : u = 241 :=
  typeName_ptr_named (nm := "errors.errorString") (by rw [starE]; kernel_rfl) (by kernel_rfl) (by decide) u (by rw [starE]; exact h)
theorem env_of {W : World} (hsh : W.ShapedOpen Tryz.prog) (h : laidMetH Tryz.prog Rows.exprTellsRow.laid W) : Ev W := by
  rw [MakeChecks.laidMetH_plain _ _ _ (by kernel_rfl)] at h
  have h2 := laidMet.tail (laidMet.tail h)
  have h4 := laidMet.tail (laidMet.tail h2)
  have h5 := laidMet.tail h4
  refine ⟨mx_of hsh, ?_, ?_, ?_⟩
  · obtain ⟨a0, s0, hv0, -, -, -⟩ := laid_sentinel h5 gES tES Tryz.underlying156 rowES Tryz.underlying241 Tryz.underlying243 rfl rfl Tryz.underlying9 c141 c9
    have h0 := World.var?_cell gES hv0 0
    exact ⟨_, by simpa using h0, Or.inr ⟨_, _, rfl⟩⟩
  · obtain ⟨a0, s0, hv0, -, -, -⟩ := laid_sentinel h4 gER tER Tryz.underlying156 rowES Tryz.underlying241 Tryz.underlying243 rfl rfl Tryz.underlying9 c141 c9
    have h0 := World.var?_cell gER hv0 0
    exact ⟨_, by simpa using h0, Or.inr ⟨_, _, rfl⟩⟩
  · exact Lib.tabIs_of_head (g := 0) (t := 205) (e := 117) (n := 20) (by kernel_rfl) (by kernel_rfl) Tryz.underlying205 Tryz.underlying117 (by kernel_rfl) (by kernel_rfl) h2
end Go.Proofs.YtkppcgimhnocdaaGreatDoor
/- What can be said of all that the reader answers: plain facts. -/
namespace Go.Proofs.YtkppcgimhnocdaaGreatDoor
open Go.RowKit

/-- A matcher that was read. -/
def MO (T : Tk → Prop) (x : Mt) : Prop := (∃ t, T t ∧ t.k = 1 ∧ x = ⟨nmL, 1, t.t⟩) ∨ ∃ a b c, T a ∧ T b ∧ T c ∧ a.k = 1 ∧ b.k = 5 ∧ mkd b.t ≠ 0 ∧ c.k = 4 ∧ x = ⟨a.t, mkd b.t, c.t⟩
/-- Names that were read, by one of two words, or none. -/
def GO (T : Tk → Prop) (b c : Bool) (ns : List Str) : Prop := (b = false ∧ c = false ∧ ns = []) ∨ (b ≠ c ∧ fewN ns = true ∧ ∀ n ∈ ns, ∃ t, T t ∧ t.k = 1 ∧ n = t.t)
structure RdOK (T : Tk → Prop) (X : Nat → Ex → Prop) : Prop where
  num : ∀ t, T t → t.k = 2 → X 1 (eNum t.p t.o t.n)
  sel : ∀ p m r, (∀ x ∈ m, MO T x) → m.length ≤ 8 → (r = 0 ∨ ∃ t, T t ∧ t.k = 3 ∧ r = t.d) → X 1 (eSel p m r)
  call : ∀ n t a, T t → t.k = 1 → isAggB t.t = false → isModB t.t = false → X n a → X (n + 1) (eCall t.p t.t a)
  agg : ∀ n t b1 b2 ns a, T t → isAggB t.t = true → GO T b1 b2 ns → X n a → X (n + 1) (eAgg t.p t.t b1 b2 ns a)
  bin : ∀ n m t b3 b4 ns a b, T t → t.k = 5 → 1 ≤ lv t.t → GO T b3 b4 ns → X n a → X m b → X (n + m + 1) (eBin t.p t.t b3 b4 ns a b)
  neg : ∀ n t a, T t → X n a → X (n + 1) (eNeg t.p a)
def All (T : Tk → Prop) (l : List Tk) : Prop := ∀ t ∈ l, T t
theorem All.tail {T : Tk → Prop} {l : List Tk} (h : All T l) : All T l.tail := fun t ht => h t (List.mem_of_mem_tail ht)
/-- What comes of so many signs. -/
def Oc {α : Type} (T : Tk → Prop) (E : Int → Prop) (A : Nat → α → Prop) (n : Nat) (a : Rs α) : Prop := (∀ er, a = .inl er → E er.1 ∧ (er.2 = 71 ∨ er.2 = 72 ∨ er.2 = 32)) ∧ ∀ x r, a = .inr (x, r) → ∃ k, A k x ∧ k + r.length ≤ n ∧ All T r
section
variable {T : Tk → Prop} {E : Int → Prop} {q : Int}
theorem Oc.good {α : Type} {A : Nat → α → Prop} {n k : Nat} {x : α} {r : List Tk} (h : A k x) (hn : k + r.length ≤ n) (hr : All T r) : Oc T E A n (.inr (x, r)) := by
  refine ⟨fun er h' => (by cases h'), fun y s h' => ?_⟩
  injection h' with h'
  injection h' with h1 h2
  subst h1 h2
  exact ⟨k, h, hn, hr⟩
theorem Oc.badly {α : Type} {A : Nat → α → Prop} {n : Nat} {p c : Int} (h : E p) (hc : c = 71 ∨ c = 72 ∨ c = 32) : Oc T E A n (.inl (p, c)) := by
  refine ⟨fun er h' => ?_, fun y s h' => by cases h'⟩
  injection h' with h'
  subst h'
  exact ⟨h, hc⟩
theorem Oc.mono {α : Type} {A : Nat → α → Prop} {n m : Nat} {a : Rs α} (h : Oc T E A n a) (hn : n ≤ m) : Oc T E A m a := ⟨h.1, fun x r hx => by
  obtain ⟨k, h1, h2, h3⟩ := h.2 x r hx
  exact ⟨k, h1, by omega, h3⟩⟩
theorem Oc.bnd {α β : Type} {A : Nat → α → Prop} {B : Nat → β → Prop} {n m : Nat} {a : Rs α} {f : α × List Tk → Rs β} (h : Oc T E A n a) (hk : ∀ x r k, A k x → k + r.length ≤ n → All T r → Oc T E B m (f (x, r))) : Oc T E B m (Go.Proofs.YtkppcgimhnocdaaGreatDoor.bnd a f) := by
  cases ha : a with
  | inl er =>
    refine ⟨fun e h' => ?_, fun y s h' => by cases h'⟩
    injection h' with h'
    subst h'
    exact h.1 er ha
  | inr x =>
    obtain ⟨x, r⟩ := x
    obtain ⟨k, h1, h2, h3⟩ := h.2 x r ha
    exact hk x r k h1 h2 h3
theorem hd_mem {l : List Tk} (h : (hd q l).k ≠ 0) : ∃ t l', l = t :: l' := by
  cases l with
  | nil => exact absurd rfl h
  | cons t l' => exact ⟨t, l', rfl⟩
theorem sg_kt {t : Tk} {s : Str} (h : sg t s = true) : t.k = 5 ∧ t.t = s := by
  unfold sg at h
  simpa using h
theorem hd_sg {l : List Tk} {s : Str} (h : sg (hd q l) s = true) : ∃ t l', l = t :: l' ∧ t.k = 5 ∧ t.t = s := by
  obtain ⟨h1, h2⟩ := sg_kt h
  obtain ⟨t, l', rfl⟩ := hd_mem (q := q) (l := l) (by rw [h1]; decide)
  exact ⟨t, l', rfl, h1, h2⟩
def Pl (T : Tk → Prop) (E : Int → Prop) (q : Int) : Prop := (∀ t, T t → E t.p) ∧ E q
theorem Pl.hd (hE : Pl T E q) {l : List Tk} (h : All T l) : E (hd q l).p := by
  cases l with
  | nil => exact hE.2
  | cons t l => exact hE.1 t (h t (by simp))
def In {α : Type} (T : Tk → Prop) (E : Int → Prop) (A : Nat → α → Prop) (f : List Tk → Rs α) : Prop := ∀ l, All T l → Oc T E A l.length (f l)
theorem in_nmI (hE : Pl T E q) : In T E (fun k n => 1 ≤ k ∧ ∃ t, T t ∧ t.k = 1 ∧ n = t.t) (nmI q) := by
  intro l h
  unfold nmI
  split
  · rename_i hk
    obtain ⟨t, l, rfl⟩ := hd_mem (q := q) (l := l) (by rw [hk]; decide)
    exact Oc.good (k := 1) ⟨Nat.le_refl _, t, h t (by simp), hk, rfl⟩ (by simp; omega) h.tail
  · exact Oc.badly (hE.hd h) (Or.inl rfl)
theorem in_mtI (hE : Pl T E q) : In T E (fun k n => 1 ≤ k ∧ MO T n) (mtI q) := by
  intro l h
  unfold mtI
  split
  · exact Oc.badly (hE.hd h) (Or.inl rfl)
  · rename_i h1
    split
    · exact Oc.badly (hE.hd h.tail) (Or.inl rfl)
    · rename_i h2
      split
      · exact Oc.badly (hE.hd h.tail.tail) (Or.inl rfl)
      · rename_i h3
        rw [Decidable.not_not] at h1 h3
        rw [not_or, Decidable.not_not] at h2
        obtain ⟨a, l, rfl⟩ := hd_mem (q := q) (l := l) (by rw [h1]; decide)
        obtain ⟨b, l, rfl⟩ := hd_mem (q := q) (l := l) (by rw [show (hd q l).k = 5 from h2.1]; decide)
        obtain ⟨c, l, rfl⟩ := hd_mem (q := q) (l := l) (by rw [show (hd q l).k = 4 from h3]; decide)
        exact Oc.good (k := 1) ⟨Nat.le_refl _, Or.inr ⟨a, b, c, h a (by simp), h b (by simp), h c (by simp), h1, h2.1, h2.2, h3, rfl⟩⟩ (by simp; omega) h.tail.tail.tail
theorem in_lsF {α : Type} {M : α → Prop} {item : List Tk → Rs α} {cl : Str} {few : List α → Bool} (hE : Pl T E q) (hi : In T E (fun k n => 1 ≤ k ∧ M n) item) : ∀ (f : Nat) (first : Bool) (acc : List α) (l : List Tk), (∀ x ∈ acc, M x) → All T l → Oc T E (fun _ ns => (∀ x ∈ ns, M x) ∧ few ns = true) l.length (lsF q cl item few f first acc l)
  | 0, _, _, l, _, h => Oc.badly (hE.hd h) (Or.inl rfl)
  | f + 1, first, acc, l, ha, h => by
    rw [lsF]
    split
    · split
      · rename_i hf
        exact Oc.good (k := 0) ⟨ha, hf⟩ (by simp) h.tail
      · exact Oc.badly (hE.hd h) (Or.inr (Or.inr rfl))
    · split
      · exact Oc.badly (hE.hd h) (Or.inl rfl)
      · have hr : All T (if first = true then l else l.tail) := by
          cases first
          · exact h.tail
          · exact h
        have hl : (if first = true then l else l.tail).length ≤ l.length := by cases first <;> simp
        refine ((hi _ hr).mono hl).bnd ?_
        intro x r k hk hkn hr'
        refine (in_lsF hE hi f false (acc ++ [x]) r ?_ hr').mono (by omega)
        intro y hy
        rcases List.mem_append.1 hy with hy | hy
        · exact ha y hy
        · simp at hy
          subst hy
          exact hk.2
theorem in_nmP (hE : Pl T E q) : In T E (fun _ ns => (∀ n ∈ ns, ∃ t, T t ∧ t.k = 1 ∧ n = t.t) ∧ fewN ns = true) (nmP q) := by
  intro l h
  unfold nmP
  split
  · exact (in_lsF hE (in_nmI hE) _ _ _ _ (fun x hx => by simp at hx) h.tail).mono (by simp)
  · exact Oc.badly (hE.hd h) (Or.inl rfl)
theorem in_brP (hE : Pl T E q) (a : List Mt) (ha : ∀ x ∈ a, MO T x) (hl : a.length ≤ 8) : In T E (fun _ ns => (∀ x ∈ ns, MO T x) ∧ fewM ns = true) (brP q a) := by
  intro l h
  unfold brP
  split
  · exact (in_lsF hE (in_mtI hE) _ _ _ _ ha h.tail).mono (by simp)
  · exact Oc.good (k := 0) ⟨ha, by unfold fewM; simpa using hl⟩ (by omega) h
theorem in_wnP (hE : Pl T E q) : In T E (fun _ r => r = 0 ∨ ∃ t, T t ∧ t.k = 3 ∧ r = t.d) (wnP q) := by
  intro l h
  unfold wnP
  split
  · exact Oc.good (k := 0) (Or.inl rfl) (by omega) h
  · split
    · exact Oc.badly (hE.hd h.tail) (Or.inl rfl)
    · rename_i h3
      split
      · exact Oc.badly (hE.hd h.tail.tail) (Or.inl rfl)
      · rw [Decidable.not_not] at h3
        obtain ⟨a, l', e⟩ := hd_mem (q := q) (l := l.tail) (by rw [h3]; decide)
        refine Oc.good (k := 0) (Or.inr ⟨a, h.tail a (by rw [e]; simp), ?_, ?_⟩) (by simp; omega) h.tail.tail.tail
        · rw [e] at h3; exact h3
        · rw [e]; rfl
variable {X : Nat → Ex → Prop}
theorem in_selP (hE : Pl T E q) (hX : RdOK T X) {l : List Tk} (h : All T l) (hl : (hd q l).k = 1 ∨ sg (hd q l) [123] = true) : Oc T E X l.length (selP q l) := by
  unfold selP
  have hA : (∀ x ∈ selA q l, MO T x) ∧ (selA q l).length ≤ 8 ∧ All T (selL q l) ∧ (selL q l).length ≤ l.length := by
    unfold selA selL
    split
    · rename_i hk
      obtain ⟨t, l, rfl⟩ := hd_mem (q := q) (l := l) (by rw [hk]; decide)
      refine ⟨fun x hx => ?_, by simp, h.tail, by simp⟩
      simp at hx
      exact Or.inl ⟨t, h t (by simp), hk, hx⟩
    · exact ⟨fun x hx => by simp at hx, by simp, h, Nat.le_refl _⟩
  have hb : Oc T E (fun _ ns => (∀ x ∈ ns, MO T x) ∧ fewM ns = true) (l.length - 1) (brP q (selA q l) (selL q l)) := by
    by_cases hk : (hd q l).k = 1
    · refine (in_brP hE _ hA.1 hA.2.1 _ hA.2.2.1).mono ?_
      unfold selL
      rw [if_pos hk]
      simp
    · have hs := hl.resolve_left hk
      unfold brP
      have e : selL q l = l := by unfold selL; rw [if_neg hk]
      rw [e, if_pos hs]
      exact (in_lsF hE (in_mtI hE) _ _ _ _ hA.1 h.tail).mono (by simp)
  refine hb.bnd ?_
  intro a r k ha hk hr
  have h0 : 0 < l.length := by
    cases l with
    | nil => rcases hl with hl | hl <;> cases hl
    | cons x l => simp
  refine (in_wnP hE r hr).bnd ?_
  intro b r' k' hb hk' hr'
  refine Oc.good (k := 1) (hX.sel _ _ _ ha.1 ?_ hb) (by dsimp only; omega) hr'
  have := ha.2
  unfold fewM at this
  simpa using this
theorem in_modP (hE : Pl T E q) : In T E (fun _ m => GO T m.on m.ig m.ns) (modP q) := by
  intro l h
  unfold modP
  split
  · exact Oc.good (k := 0) (Or.inl ⟨rfl, rfl, rfl⟩) (by omega) h
  · rename_i hm
    refine ((in_nmP hE _ h.tail).mono (m := l.length) (by simp)).bnd ?_
    intro a r k ha hk hr
    refine Oc.good (k := 0) (Or.inr ⟨?_, ha.2, ha.1⟩) (by dsimp only; omega) hr
    rw [Bool.not_eq_false] at hm
    unfold hasMod at hm
    simp only [Bool.and_eq_true] at hm
    have h2 := hm.1.2
    unfold isModB at h2
    rw [Bool.or_eq_true, beq_iff_eq, beq_iff_eq] at h2
    show ((hd q l).t == wOn) ≠ ((hd q l).t == wIgn)
    rcases h2 with e | e <;> rw [e] <;> decide
theorem in_chF (hE : Pl T E q) (hX : RdOK T X) {lev : Int} (hl1 : 1 ≤ lev) {u : List Tk → Rs Ex} (hu : In T E X u) : ∀ (f n : Nat) (e : Ex) (l : List Tk), X n e → All T l → Oc T E X (n + l.length) (chF q lev u f e l)
  | 0, n, e, l, he, h => Oc.good (k := n) he (by omega) h
  | f + 1, n, e, l, he, h => by
    rw [chF]
    split
    · exact Oc.good (k := n) he (by omega) h
    · rename_i ho
      rw [Bool.not_eq_false] at ho
      unfold isOp at ho
      rw [Bool.and_eq_true, beq_iff_eq, beq_iff_eq] at ho
      obtain ⟨t, l, rfl⟩ := hd_mem (q := q) (l := l) (by rw [ho.1]; decide)
      have hj : Oc T E X (n + (t :: l).length) (joinP q u e (t :: l)) := by
        unfold joinP
        refine (in_modP hE _ h.tail).bnd ?_
        intro a r k ha hk hr
        refine (hu _ hr).bnd ?_
        intro b r' k' hb hk' hr'
        exact Oc.good (k := n + k' + 1) (hX.bin n k' t _ _ _ _ _ (h t (by simp)) ho.1 (by rw [show lv t.t = lev from ho.2]; exact hl1) ha he hb) (by simp at hk ⊢; omega) hr'
      refine hj.bnd ?_
      intro b r k hb hk hr
      exact (in_chF hE hX hl1 hu f k b r hb hr).mono hk
theorem in_chP (hE : Pl T E q) (hX : RdOK T X) {lev : Int} (hl1 : 1 ≤ lev) {u : List Tk → Rs Ex} (hu : In T E X u) : In T E X (chP q lev u) := by
  intro l h
  unfold chP
  refine (hu _ h).bnd ?_
  intro b r k hb hk hr
  exact (in_chF hE hX hl1 hu _ k b r hb hr).mono hk
theorem in_cmp (hE : Pl T E q) (hX : RdOK T X) {u : List Tk → Rs Ex} (hu : In T E X u) : In T E X (cmpP q u) := in_chP hE hX (by decide) (in_chP hE hX (by decide) (in_chP hE hX (by decide) hu))
theorem in_brk (hE : Pl T E q) {c : List Tk → Rs Ex} (hc : In T E X c) : In T E X (brkP q c) := by
  intro l h
  unfold brkP
  split
  · exact Oc.badly (hE.hd h) (Or.inl rfl)
  · refine ((hc _ h.tail).mono (m := l.length) (by simp)).bnd ?_
    intro b r k hb hk hr
    show Oc T E X _ (if sg (hd q r) [41] = true then .inr (b, r.tail) else .inl (bad q r 71))
    split
    · exact Oc.good (k := k) hb (by simp; omega) hr.tail
    · exact Oc.badly (hE.hd hr) (Or.inl rfl)
theorem in_grp (hE : Pl T E q) {l : List Tk} (h : All T l) (hg : (hd q l).k = 1 → isGrpB (hd q l).t = true) : Oc T E (fun _ m => GO T m.on m.ig m.ns) l.length (grpP q l) := by
  unfold grpP
  split
  · exact Oc.good (k := 0) (Or.inl ⟨rfl, rfl, rfl⟩) (by omega) h
  · rename_i hk
    rw [Decidable.not_not] at hk
    refine ((in_nmP hE _ h.tail).mono (m := l.length) (by simp)).bnd ?_
    intro a r k ha hk' hr
    refine Oc.good (k := 0) (Or.inr ⟨?_, ha.2, ha.1⟩) (by dsimp only; omega) hr
    have h2 := hg hk
    unfold isGrpB at h2
    rw [Bool.or_eq_true, beq_iff_eq, beq_iff_eq] at h2
    show ((hd q l).t == wBy) ≠ ((hd q l).t == wWo)
    rcases h2 with e | e <;> rw [e] <;> decide
theorem in_nam (hE : Pl T E q) (hX : RdOK T X) {c : List Tk → Rs Ex} (hc : In T E X c) {l : List Tk} (h : All T l) (hk : (hd q l).k = 1) : Oc T E X l.length (namP q c l) := by
  obtain ⟨t, l, rfl⟩ := hd_mem (q := q) (l := l) (by rw [hk]; decide)
  have hk : t.k = 1 := hk
  unfold namP
  split
  · rename_i ha
    rw [Bool.and_eq_true, Bool.or_eq_true, Bool.and_eq_true] at ha
    unfold aggP
    refine (in_grp hE h.tail ?_).bnd ?_
    · intro hk1
      rcases ha.2 with hs | hs
      · rw [(sg_kt hs).1] at hk1
        cases hk1
      · exact hs.2
    · intro m r k hm hkn hr
      refine (in_brk hE hc _ hr).bnd ?_
      intro b r' k' hb hk' hr'
      exact Oc.good (k := k' + 1) (hX.agg k' t _ _ _ _ (h t (by simp)) ha.1 hm hb) (by simp at hkn ⊢; omega) hr'
  · rename_i ha
    split
    · exact Oc.badly (hE.hd h) (Or.inl rfl)
    · rename_i hm
      split
      · rename_i ho
        have h1 : isAggB t.t = false := by
          cases hA : isAggB t.t with
          | false => rfl
          | true =>
            exfalso
            apply ha
            rw [ho, Bool.true_or, Bool.and_true]
            exact hA
        have h2 : isModB t.t = false := by
          cases hA : isModB t.t with
          | false => rfl
          | true =>
            exfalso
            apply hm
            rw [ho, Bool.and_true]
            exact hA
        unfold callP
        refine (in_brk hE hc _ h.tail).bnd ?_
        intro b r k hb hkn hr
        exact Oc.good (k := k + 1) (hX.call k t _ (h t (by simp)) hk h1 h2 hb) (by simp at hkn ⊢; omega) hr
      · exact in_selP hE hX h (Or.inl hk)
theorem in_prm (hE : Pl T E q) (hX : RdOK T X) {c : List Tk → Rs Ex} (hc : In T E X c) : In T E X (prmP q c) := by
  intro l h
  unfold prmP
  split
  · rename_i hk
    obtain ⟨t, l, rfl⟩ := hd_mem (q := q) (l := l) (by rw [hk]; decide)
    exact Oc.good (k := 1) (hX.num t (h t (by simp)) hk) (by simp; omega) h.tail
  · split
    · rename_i hk
      exact in_nam hE hX hc h hk
    · split
      · exact in_brk hE hc _ h
      · split
        · rename_i hs
          exact in_selP hE hX h (Or.inr hs)
        · exact Oc.badly (hE.hd h) (Or.inl rfl)
theorem in_un (hE : Pl T E q) (hX : RdOK T X) {n c : List Tk → Rs Ex} (hn : In T E X n) (hc : In T E X c) : In T E X (unP q n c) := by
  intro l h
  unfold unP
  split
  · exact in_prm hE hX hc l h
  · rename_i hs
    rw [Bool.not_eq_false] at hs
    obtain ⟨t, l, rfl, _, _⟩ := hd_sg hs
    refine (hn _ h.tail).bnd ?_
    intro b r k hb hkn hr
    exact Oc.good (k := k + 1) (hX.neg k t _ (h t (by simp)) hb) (by simp at hkn ⊢; omega) hr
theorem in_deep (hE : Pl T E q) : In T E X (deep q) := fun _ h => Oc.badly (hE.hd h) (Or.inr (Or.inl rfl))
theorem in_unD (hE : Pl T E q) (hX : RdOK T X) : ∀ d, In T E X (unD q d)
  | 0 => in_un hE hX (in_deep hE) (in_deep hE)
  | d + 1 => in_un hE hX (in_unD hE hX d) (in_cmp hE hX (in_unD hE hX d))
/-- All that is read of whatever signs. -/
theorem rd_all (hE : ∀ t, T t → E t.p) (h0 : E 0) (hX : RdOK T X) {l : List Tk} (h : All T l) : (∀ er, rdP l = .inl er → E er.1 ∧ (er.2 = 71 ∨ er.2 = 72 ∨ er.2 = 32)) ∧ ∀ e, rdP l = .inr e → ∃ k, X k e ∧ k ≤ l.length := by
  have hq : E (endP l) := by
    unfold endP
    cases hg : l.getLast? with
    | none => exact h0
    | some t => exact hE t (h t (List.mem_of_getLast? hg))
  have hE' : Pl T E (endP l) := ⟨hE, hq⟩
  have hc := in_cmp hE' hX (in_unD hE' hX 15) l h
  unfold rdP whP
  cases ha : cmpP (endP l) (unD (endP l) 15) l with
  | inl er =>
    rw [ha] at hc
    refine ⟨fun e h' => ?_, fun e h' => by cases h'⟩
    injection h' with h'
    subst h'
    exact hc.1 er rfl
  | inr x =>
    obtain ⟨x, r⟩ := x
    rw [ha] at hc
    obtain ⟨k, h1, h2, h3⟩ := hc.2 x r rfl
    show (∀ er, (if (hd (endP l) r).k = 0 then .inr x else .inl (bad (endP l) r 71)) = Sum.inl er → _) ∧ ∀ e, (if (hd (endP l) r).k = 0 then .inr x else .inl (bad (endP l) r 71)) = Sum.inr e → _
    split
    · refine ⟨fun e h' => (by cases h'), fun e h' => ?_⟩
      injection h' with h'
      subst h'
      exact ⟨k, h1, by omega⟩
    · refine ⟨fun e h' => ?_, fun e h' => by cases h'⟩
      injection h' with h'
      subst h'
      exact ⟨hE'.hd h3, Or.inl rfl⟩
end
end Go.Proofs.YtkppcgimhnocdaaGreatDoor
/- Signs that stand one behind the other with no blank between: plain facts. -/
namespace Go.Proofs.YtkppcgimhnocdaaGreatDoor
open Go.RowKit

/-- Nothing that stands ahead of it goes on in it. -/
def stp (c : UInt8) : Bool := [32, 40, 41, 123, 125, 91, 93, 44].contains c
theorem stp_cases {c : UInt8} (h : stp c = true) : c = 32 ∨ c = 40 ∨ c = 41 ∨ c = 123 ∨ c = 125 ∨ c = 91 ∨ c = 93 ∨ c = 44 := by
  unfold stp at h
  simpa using h
theorem stp_dig {c : UInt8} (h : stp c = true) : digB c = false := by
  rcases stp_cases h with rfl | rfl | rfl | rfl | rfl | rfl | rfl | rfl <;> decide
theorem stp_name {c : UInt8} (h : stp c = true) : nameCh c = false := by
  rcases stp_cases h with rfl | rfl | rfl | rfl | rfl | rfl | rfl | rfl <;> decide
theorem stp_sg {c : UInt8} (h : stp c = true) (a : UInt8) : isSg [a, c] = false := by
  cases hs : isSg [a, c] with
  | false => rfl
  | true =>
    have := sign_cases hs
    rcases stp_cases h with rfl | rfl | rfl | rfl | rfl | rfl | rfl | rfl <;> simp at this
theorem stp_ne {c : UInt8} (h : stp c = true) : c ≠ 116 ∧ c ≠ 46 := by
  rcases stp_cases h with rfl | rfl | rfl | rfl | rfl | rfl | rfl | rfl <;> decide
theorem tok_stop {s : Str} {x : Tk} {k : Nat} {c : UInt8} (hc : stp c = true) (b : Str) (hs : s ≠ []) (h : tok s = some (x, k)) : tok (s ++ c :: b) = some (x, k) := by
  rw [← h]
  have hcd := stp_dig hc
  have hcn := stp_name hc
  obtain ⟨c1, c2⟩ := stp_ne hc
  have hg : dgN (s ++ c :: b) = dgN s := by unfold dgN; rw [run_more s b hcd]
  have hi : idN (s ++ c :: b) = idN s := by unfold idN; rw [run_more s b hcn]
  unfold tok
  rw [headD_app _ hs]
  unfold tok at h
  split
  · rename_i hd
    unfold tkAmt
    have hgl := dgN_le s
    rw [hg, List.drop_append_of_le_length hgl, List.take_append_of_le_length hgl]
    have hh : ((s.drop (dgN s) ++ c :: b).head? = some 116) = ((s.drop (dgN s)).head? = some 116) := by
      cases s.drop (dgN s) with
      | nil => simp [c1]
      | cons c r => simp
    have hdn : decN (s.drop (dgN s) ++ c :: b) = decN (s.drop (dgN s)) := by
      cases s.drop (dgN s) with
      | nil =>
        show decN (c :: b) = decN []
        unfold decN
        rw [if_neg (by simp [c2]), if_neg (by simp)]
      | cons a r =>
        have : dgN (r ++ c :: b) = dgN r := by unfold dgN; rw [run_more r b hcd]
        have d1 : ∀ q, decN (a :: q) = if a = 46 then (if dgN q = 0 then 0 else 1 + dgN q) else 0 := fun q => by
          unfold decN
          by_cases hc : a = 46
          · rw [if_pos hc, if_pos (by rw [hc]; rfl)]; rfl
          · rw [if_neg hc, if_neg (by simp [hc])]
        rw [List.cons_append, d1, d1, this]
    have hdl := decN_le (s.drop (dgN s))
    simp at hdl
    rw [hdn, List.take_append_of_le_length (by omega)]
    simp only [hh]
  · split
    · rw [hi, List.take_append_of_le_length (idN_le s)]
    · split
      · rename_i h1 h2 h3
        rw [if_neg h1, if_neg h2, if_pos h3] at h
        have e : (s ++ c :: b).tail = s.tail ++ c :: b := by
          cases s with
          | nil => exact absurd rfl hs
          | cons c r => rfl
        unfold tkTx at h ⊢
        rw [e]
        cases hq : qd s.tail with
        | none => rw [hq] at h; cases h
        | some y => rw [qd_more _ s.tail _ (Nat.le_refl _) y hq]
      · unfold tkSg
        have e1 : (s ++ c :: b).take 1 = s.take 1 := by
          cases s with
          | nil => exact absurd rfl hs
          | cons c r => rfl
        rw [e1]
        by_cases h2 : 2 ≤ s.length
        · rw [List.take_append_of_le_length h2]
          have h2' : 2 ≤ (s ++ c :: b).length := by simp; omega
          simp only [h2, h2']
        · obtain ⟨a, rfl⟩ : ∃ a, s = [a] := by
            cases s with
            | nil => exact absurd rfl hs
            | cons c r =>
              cases r with
              | nil => exact ⟨c, rfl⟩
              | cons d r => simp at h2
          rw [show ([a] ++ c :: b).take 2 = [a, c] from rfl, stp_sg hc]
          have n1 : ¬ (2 ≤ ([a] ++ c :: b).length ∧ false = true) := fun e => by cases e.2
          have n2 : ¬ (2 ≤ [a].length ∧ isSg ([a].take 2) = true) := fun e => h2 e.1
          rw [if_neg n1, if_neg n2]
theorem scanG_stop {c : UInt8} (hc : stp c = true) (b : Str) (n : Nat) : ∀ (m : Nat) (r : Str) (l : List Tk), r.length ≤ m → r.length ≤ n → lead r = r → scanG n r = .inr l → scanG (n + 1 + b.length) (lead (r ++ c :: b)) = pre l (scanG (n + 1 + b.length) (lead (c :: b)))
  | m, [], l, _, _, _, hg => by
    rw [scanG_nil] at hg
    injection hg with hg
    subst hg
    rw [pre_nil, List.nil_append]
  | 0, c :: r, l, h, _, _, _ => by simp at h
  | m + 1, d :: r, l, h, hn, hl, hg => by
    have hr : d :: r ≠ [] := by simp
    rw [lead_app2 hl]
    generalize d :: r = r at *
    have hr2 : r ++ c :: b ≠ [] := by simp
    cases ht : tok r with
    | none => rw [scanG_none hr ht] at hg; cases hg
    | some y =>
      obtain ⟨x, k⟩ := y
      obtain ⟨k1, k2, _, _⟩ := tok_facts hr ht
      have hlt := lead_drop_lt hr k1
      rw [scanG_some hr ht k1] at hg
      cases hq : scanG n (lead (r.drop k)) with
      | inl p => rw [hq] at hg; cases hg
      | inr l' =>
        rw [hq] at hg
        have hg' : x.put ((n - r.length : Nat) : Int) :: l' = l := by injection hg
        subst hg'
        have ih := scanG_stop hc b n m (lead (r.drop k)) l' (by omega) (by omega) (lead_lead _) hq
        rw [scanG_some hr2 (tok_stop hc b hr ht) k1, List.drop_append_of_le_length k2, lead_lead_app, ih]
        have e : n + 1 + b.length - (r ++ c :: b).length = n - r.length := by simp; omega
        rw [e]
        cases scanG (n + 1 + b.length) (lead (c :: b)) <;> rfl
theorem sc_stop {c : UInt8} (hc : stp c = true) {a b : Str} {l : List Tk} (h : sc a = .inr l) : sc (a ++ c :: b) = pre l (shR a.length (sc (c :: b))) := by
  unfold sc at *
  have e : (a ++ c :: b).length = a.length + 1 + b.length := by simp; omega
  have e2 : a.length + 1 + b.length = a.length + (c :: b).length := by simp; omega
  rw [e, lead_lead_app, scanG_stop hc b a.length (lead a).length (lead a) l (Nat.le_refl _) (lead_le a) (lead_lead a) h, e2, scanG_shift a.length (c :: b).length (lead (c :: b)).length (lead (c :: b)) (Nat.le_refl _) (lead_le _)]
/-- Brackets round a text are signs round its signs. -/
theorem sc_open (s : Str) : sc (40 :: s) = push ⟨5, 0, [40], false, 0, 0⟩ (shR 1 (sc s)) := by
  have ht : tok (40 :: s) = some (tSign [40], 1) := by
    unfold tok
    rw [List.headD_cons, if_neg (by decide), if_neg (by decide), if_neg (by decide)]
    unfold tkSg
    rw [if_neg, if_pos]
    · rfl
    · rfl
    · rintro ⟨_, h⟩
      have := sign_cases h
      cases s with
      | nil => simp at *
      | cons c s => simp at this
  have hl : lead (40 :: s) = 40 :: s := lead_cons (by decide)
  unfold sc
  rw [hl, scanG_some (by simp) ht (Nat.le_refl _)]
  have e : (40 :: s).length = 1 + s.length := by simp; omega
  rw [List.drop_succ_cons, List.drop_zero, e, scanG_shift 1 s.length (lead s).length (lead s) (Nat.le_refl _) (lead_le _), ← e, Nat.sub_self]
  rfl
theorem sc_round {s : Str} {l : List Tk} (h : sc s = .inr l) : ∃ o c, sc (40 :: (s ++ [41])) = .inr (o :: (l.map (sh 1) ++ [c])) ∧ o.k = 5 ∧ o.t = [40] ∧ c.k = 5 ∧ c.t = [41] := by
  have h1 : sc (40 :: s) = .inr (⟨5, 0, [40], false, 0, 0⟩ :: l.map (sh 1)) := by rw [sc_open, h]; rfl
  have h2 := sc_stop (c := 41) (by decide) (b := []) h1
  have h3 : sc [41] = .inr [⟨5, 0, [41], false, 0, 0⟩] := by kernel_rfl
  rw [h3] at h2
  exact ⟨_, sh (40 :: s).length ⟨5, 0, [41], false, 0, 0⟩, h2, rfl, rfl, rfl, rfl⟩
end Go.Proofs.YtkppcgimhnocdaaGreatDoor
/- Brackets round an expression change nothing but places: plain facts. -/
namespace Go.Proofs.YtkppcgimhnocdaaGreatDoor
open Go.RowKit

/-! ### Without places -/
def strG (e : Ex) (ks : List Ex) : Ex := ⟨e.k, 0, e.o, e.v, e.s, e.m, e.r, e.b1, e.b2, e.b3, e.b4, e.ns, ks⟩
def str (e : Ex) : Ex := foldE strG e
def strL : List Ex → List Ex
  | [] => []
  | x :: l => str x :: strL l
theorem strL_map : ∀ l, strL l = l.map str
  | [] => rfl
  | x :: l => by rw [strL, strL_map l]; rfl
theorem str_mk (k p : Int) (o : Bool) (v : Int) (s : Str) (m : List Mt) (r : Int) (b1 b2 b3 b4 : Bool) (ns : List Str) (ks : List Ex) : str ⟨k, p, o, v, s, m, r, b1, b2, b3, b4, ns, ks⟩ = ⟨k, 0, o, v, s, m, r, b1, b2, b3, b4, ns, strL ks⟩ := by
  show foldE strG _ = _
  rw [foldE_eq, strL_map]
  rfl
def Eqx (a b : Ex) : Prop := str a = str b
theorem eqx_num (p p' : Int) (o : Bool) (v : Int) : Eqx (eNum p o v) (eNum p' o v) := by
  unfold Eqx eNum
  rw [str_mk, str_mk]
theorem eqx_sel (p p' : Int) (m : List Mt) (r : Int) : Eqx (eSel p m r) (eSel p' m r) := by
  unfold Eqx eSel
  rw [str_mk, str_mk]
theorem eqx_call (p p' : Int) (s : Str) {a b : Ex} (h : Eqx a b) : Eqx (eCall p s a) (eCall p' s b) := by
  unfold Eqx at *
  unfold eCall
  simp only [str_mk, strL, h]
theorem eqx_agg (p p' : Int) (s : Str) (b1 b2 : Bool) (ns : List Str) {a b : Ex} (h : Eqx a b) : Eqx (eAgg p s b1 b2 ns a) (eAgg p' s b1 b2 ns b) := by
  unfold Eqx at *
  unfold eAgg
  simp only [str_mk, strL, h]
theorem eqx_neg (p p' : Int) {a b : Ex} (h : Eqx a b) : Eqx (eNeg p a) (eNeg p' b) := by
  unfold Eqx at *
  unfold eNeg
  simp only [str_mk, strL, h]
theorem eqx_bin (p p' : Int) (s : Str) (b3 b4 : Bool) (ns : List Str) {a b c d : Ex} (h : Eqx a b) (h' : Eqx c d) : Eqx (eBin p s b3 b4 ns a c) (eBin p' s b3 b4 ns b d) := by
  unfold Eqx at *
  unfold eBin
  simp only [str_mk, strL, h, h']

/-! ### Two rows of signs that are read alike -/
/-- The same signs, at other places; then the one ends, and in the other a bracket is closed. -/
def Rl (Z l1 l2 : List Tk) : Prop := ∃ T1 T2 R1 R2, l1 = T1 ++ R1 ∧ l2 = T2 ++ R2 ∧ T1.map (Tk.put · 0) = T2.map (Tk.put · 0) ∧ (∀ x ∈ T1, x.k ≠ 0) ∧ (R1 = [] ∨ ∃ E, R1 = [E] ∧ E.k = 0) ∧ R2 = Z ∧ ∃ c R, R2 = c :: R ∧ c.k = 5 ∧ c.t = [41]
variable {Z : List Tk}
theorem put_eq {x y : Tk} (h : x.put 0 = y.put 0) : y = x.put y.p := by
  obtain ⟨a, b, c, d, e, f⟩ := x
  obtain ⟨a', b', c', d', e', f'⟩ := y
  unfold Tk.put at *
  simp at h ⊢
  obtain ⟨h1, h2, h3, h4, h5⟩ := h
  exact ⟨h1.symm, h2.symm, h3.symm, h4.symm, h5.symm⟩
theorem Rl.cases {l1 l2 : List Tk} (h : Rl Z l1 l2) (q : Int) : ((hd q l1).k = 0 ∧ (∃ E, l1 = [] ∨ l1 = [E]) ∧ ∃ c R, l2 = c :: R ∧ c.k = 5 ∧ c.t = [41]) ∨ ∃ x p l1' l2', l1 = x :: l1' ∧ l2 = x.put p :: l2' ∧ x.k ≠ 0 ∧ Rl Z l1' l2' := by
  obtain ⟨T1, T2, R1, R2, rfl, rfl, hT, h0, hR1, hZ, c, R, rfl, h5, ht⟩ := h
  cases T1 with
  | nil =>
    cases T2 with
    | cons y T2 => simp at hT
    | nil =>
      refine Or.inl ⟨?_, ?_, c, R, rfl, h5, ht⟩
      · rcases hR1 with rfl | ⟨E, rfl, hE⟩
        · rfl
        · exact hE
      · rcases hR1 with rfl | ⟨E, rfl, _⟩
        · exact ⟨c, Or.inl rfl⟩
        · exact ⟨E, Or.inr rfl⟩
  | cons x T1 =>
    cases T2 with
    | nil => simp at hT
    | cons y T2 =>
      rw [List.map_cons, List.map_cons] at hT
      injection hT with h1 h2
      refine Or.inr ⟨x, y.p, T1 ++ R1, T2 ++ c :: R, rfl, by rw [← put_eq h1]; rfl, h0 x (by simp), T1, T2, R1, c :: R, rfl, rfl, h2, fun z hz => h0 z (by simp [hz]), hR1, hZ, c, R, rfl, h5, ht⟩
theorem Rl.rest {l1 l2 : List Tk} (h : Rl Z l1 l2) {q : Int} (h0 : (hd q l1).k = 0) : l2 = Z := by
  obtain ⟨T1, T2, R1, R2, rfl, rfl, hT, hx, hR1, hZ, c, R, rfl, h5, ht⟩ := h
  cases T1 with
  | nil =>
    cases T2 with
    | cons y T2 => simp at hT
    | nil => exact hZ
  | cons x T1 => exact absurd h0 (hx x (by simp))
theorem Rl.len {l1 l2 : List Tk} (h : Rl Z l1 l2) : l1.length ≤ l2.length := by
  obtain ⟨T1, T2, R1, R2, rfl, rfl, hT, h0, hR1, hZ, c, R, rfl, h5, ht⟩ := h
  have := congrArg List.length hT
  simp at this
  rcases hR1 with rfl | ⟨E, rfl, _⟩ <;> simp <;> omega
theorem sg0 {t : Tk} {s : Str} (h : t.k = 0) : sg t s = false := by unfold sg; rw [h]; rfl
theorem sgc {t : Tk} {s : Str} (ht : t.t = [41]) (hs : ([41] : Str) ≠ s) : sg t s = false := by
  unfold sg
  rw [ht, beq_eq_false_iff_ne.2 hs, Bool.and_false]
theorem Rl.sg {l1 l2 : List Tk} (h : Rl Z l1 l2) (q1 q2 : Int) {s : Str} (hs : ([41] : Str) ≠ s) : Go.Proofs.YtkppcgimhnocdaaGreatDoor.sg (hd q1 l1) s = Go.Proofs.YtkppcgimhnocdaaGreatDoor.sg (hd q2 l2) s := by
  rcases h.cases q1 with ⟨h0, _, c, R, rfl, h5, ht⟩ | ⟨x, p, l1', l2', rfl, rfl, hx, h'⟩
  · rw [sg0 h0]; exact (sgc ht hs).symm
  · rfl
def Ot {α : Type} (Z : List Tk) (n : Nat) (R : α → α → Prop) (a b : Rs α) : Prop := ∀ e1 r1, a = .inr (e1, r1) → (r1.length ≤ n ∧ ∃ e2 r2, b = .inr (e2, r2) ∧ R e1 e2 ∧ Rl Z r1 r2) ∨ ∃ p, b = .inl (p, 72)
theorem Ot.bad {α : Type} {n : Nat} {R : α → α → Prop} {er : Er} {b : Rs α} : Ot Z n R (.inl er) b := fun _ _ h => by cases h
theorem Ot.good {α : Type} {n : Nat} {R : α → α → Prop} {x y : α} {r s : List Tk} (h : R x y) (hr : Rl Z r s) (hn : r.length ≤ n) : Ot Z n R (.inr (x, r)) (.inr (y, s)) := fun e1 r1 h' => by
  injection h' with h'
  injection h' with h1 h2
  subst h1 h2
  exact Or.inl ⟨hn, y, s, rfl, h, hr⟩
theorem Ot.deep {α : Type} {n : Nat} {R : α → α → Prop} {a : Rs α} {p : Int} : Ot Z n R a (.inl (p, 72)) := fun _ _ _ => Or.inr ⟨p, rfl⟩
theorem Ot.mono {α : Type} {n m : Nat} {R : α → α → Prop} {a b : Rs α} (h : Ot Z n R a b) (hn : n ≤ m) : Ot Z m R a b := fun e1 r1 h' => by
  rcases h e1 r1 h' with ⟨h1, h2⟩ | h
  · exact Or.inl ⟨by omega, h2⟩
  · exact Or.inr h
theorem Ot.bnd {α β : Type} {n : Nat} {R : α → α → Prop} {R' : β → β → Prop} {a b : Rs α} {k1 k2 : α × List Tk → Rs β} (h : Ot Z n R a b) (hk : ∀ x y r s, r.length ≤ n → R x y → Rl Z r s → Ot Z n R' (k1 (x, r)) (k2 (y, s))) : Ot Z n R' (Go.Proofs.YtkppcgimhnocdaaGreatDoor.bnd a k1) (Go.Proofs.YtkppcgimhnocdaaGreatDoor.bnd b k2) := by
  intro e1 r1 h'
  cases ha : a with
  | inl er => rw [ha] at h'; cases h'
  | inr x =>
    obtain ⟨x, r⟩ := x
    rw [ha] at h'
    rcases h x r ha with ⟨hn, y, s, rfl, hR, hr⟩ | ⟨p, rfl⟩
    · exact hk x y r s hn hR hr e1 r1 h'
    · exact Or.inr ⟨p, rfl⟩
def Sim {α : Type} (Z : List Tk) (R : α → α → Prop) (f g : List Tk → Rs α) : Prop := ∀ l1 l2, Rl Z l1 l2 → Ot Z l1.length R (f l1) (g l2)

/-! ### The reader's parts, one by one -/
theorem nmI0 {q : Int} {l : List Tk} (h : (hd q l).k = 0) : nmI q l = .inl (Go.Proofs.YtkppcgimhnocdaaGreatDoor.bad q l 71) := by unfold nmI; rw [if_neg (by rw [h]; decide)]
theorem sim_nmI (q1 q2 : Int) : Sim Z Eq (nmI q1) (nmI q2) := by
  intro l1 l2 h
  rcases h.cases q1 with ⟨h0, _, c, R, rfl, h5, ht⟩ | ⟨x, p, l1', l2', rfl, rfl, hx, h'⟩
  · rw [nmI0 h0]; exact Ot.bad
  · show Ot Z _ _ (if x.k = 1 then .inr (x.t, l1') else .inl _) (if x.k = 1 then .inr (x.t, l2') else .inl _)
    split
    · exact Ot.good rfl h' (by simp)
    · exact Ot.bad
theorem mtI0 {q : Int} {l : List Tk} (h : (hd q l).k = 0) : mtI q l = .inl (Go.Proofs.YtkppcgimhnocdaaGreatDoor.bad q l 71) := by unfold mtI; rw [if_pos (by rw [h]; decide)]
theorem sim_mtI (q1 q2 : Int) : Sim Z Eq (mtI q1) (mtI q2) := by
  intro l1 l2 h
  rcases h.cases q1 with ⟨h0, _, c, R, rfl, h5, ht⟩ | ⟨x, p, l1', l2', rfl, rfl, hx, h'⟩
  · rw [mtI0 h0]; exact Ot.bad
  · by_cases h1 : x.k ≠ 1
    · unfold mtI
      rw [if_pos (show (hd q1 (x :: l1')).k ≠ 1 from h1)]; exact Ot.bad
    · rcases h'.cases q1 with ⟨h0, _, c, R, rfl, h5, ht⟩ | ⟨y, p', m1, m2, rfl, rfl, hy, h''⟩
      · unfold mtI
        rw [if_neg (show ¬ (hd q1 (x :: l1')).k ≠ 1 from h1), List.tail_cons, if_pos (Or.inl (by rw [h0]; decide))]; exact Ot.bad
      · by_cases h2 : y.k ≠ 5 ∨ mkd y.t = 0
        · unfold mtI
          rw [if_neg (show ¬ (hd q1 (x :: y :: m1)).k ≠ 1 from h1), List.tail_cons, if_pos (show (hd q1 (y :: m1)).k ≠ 5 ∨ mkd (hd q1 (y :: m1)).t = 0 from h2)]; exact Ot.bad
        · rcases h''.cases q1 with ⟨h0, _, c, R, rfl, h5, ht⟩ | ⟨z, p'', n1, n2, rfl, rfl, hz, h'''⟩
          · unfold mtI
            rw [if_neg (show ¬ (hd q1 (x :: y :: m1)).k ≠ 1 from h1), List.tail_cons, if_neg (show ¬ ((hd q1 (y :: m1)).k ≠ 5 ∨ mkd (hd q1 (y :: m1)).t = 0) from h2), List.tail_cons, if_pos (by rw [h0]; decide)]; exact Ot.bad
          · show Ot Z _ _ (if x.k ≠ 1 then .inl _ else if y.k ≠ 5 ∨ mkd y.t = 0 then .inl _ else if z.k ≠ 4 then .inl _ else .inr ((⟨x.t, mkd y.t, z.t⟩ : Mt), n1)) (if x.k ≠ 1 then .inl _ else if y.k ≠ 5 ∨ mkd y.t = 0 then .inl _ else if z.k ≠ 4 then .inl _ else .inr ((⟨x.t, mkd y.t, z.t⟩ : Mt), n2))
            rw [if_neg h1, if_neg h2, if_neg h1, if_neg h2]
            split
            · exact Ot.bad
            · exact Ot.good rfl h''' (by simp; omega)
theorem sim_lsF {α : Type} {q1 q2 : Int} {cl : Str} {i1 i2 : List Tk → Rs α} {few : List α → Bool} (hi : Sim Z Eq i1 i2) (h0 : ∀ l, (hd q1 l).k = 0 → ∃ er, i1 l = .inl er) : ∀ (f1 f2 : Nat) (first : Bool) (acc : List α) (l1 l2 : List Tk), f1 ≤ f2 → Rl Z l1 l2 → Ot Z l1.length Eq (lsF q1 cl i1 few f1 first acc l1) (lsF q2 cl i2 few f2 first acc l2)
  | 0, f2, first, acc, l1, l2, _, _ => Ot.bad
  | f1 + 1, 0, first, acc, l1, l2, hf, _ => by omega
  | f1 + 1, f2 + 1, first, acc, l1, l2, hf, h => by
    rw [lsF, lsF]
    rcases h.cases q1 with ⟨hk, _, c, R, rfl, h5, ht⟩ | ⟨x, p, l1', l2', rfl, rfl, hx, h'⟩
    · rw [sg0 hk, sg0 hk, if_neg (by simp)]
      cases first with
      | false => rw [if_pos ⟨rfl, rfl⟩]; exact Ot.bad
      | true =>
        obtain ⟨er, he⟩ := h0 l1 hk
        rw [if_neg (by simp), if_pos rfl, he]
        exact Ot.bad
    · show Ot Z _ _ (if sg x cl = true then (if few acc = true then .inr (acc, l1') else .inl _) else if first = false ∧ sg x [44] = false then .inl _ else bnd (i1 (if first = true then x :: l1' else l1')) _) (if sg x cl = true then (if few acc = true then .inr (acc, l2') else .inl _) else if first = false ∧ sg x [44] = false then .inl _ else bnd (i2 (if first = true then x.put p :: l2' else l2')) _)
      split
      · split
        · exact Ot.good rfl h' (by simp)
        · exact Ot.bad
      · split
        · exact Ot.bad
        · have hr : Rl Z (if first = true then x :: l1' else l1') (if first = true then x.put p :: l2' else l2') := by
            cases first
            · exact h'
            · exact h
          have hl : (if first = true then x :: l1' else l1').length ≤ (x :: l1').length := by
            cases first <;> simp
          refine ((hi _ _ hr).mono hl).bnd ?_
          rintro a _ r s hn rfl hrs
          exact (sim_lsF hi h0 f1 f2 false (acc ++ [a]) r s (by omega) hrs).mono hn
theorem sim_nmP (q1 q2 : Int) : Sim Z Eq (nmP q1) (nmP q2) := by
  intro l1 l2 h
  unfold nmP
  rw [← h.sg q1 q2 (by decide)]
  split
  · rename_i hs
    rcases h.cases q1 with ⟨hk, _, c, R, rfl, h5, ht⟩ | ⟨x, p, l1', l2', rfl, rfl, hx, h'⟩
    · rw [sg0 hk] at hs; cases hs
    · have := h.len
      exact (sim_lsF (sim_nmI q1 q2) (fun l hl => ⟨_, nmI0 hl⟩) _ _ _ _ _ _ (by omega) h').mono (by simp)
  · exact Ot.bad
theorem sim_brP (q1 q2 : Int) (a : List Mt) : Sim Z Eq (brP q1 a) (brP q2 a) := by
  intro l1 l2 h
  unfold brP
  rw [← h.sg q1 q2 (by decide)]
  split
  · rename_i hs
    rcases h.cases q1 with ⟨hk, _, c, R, rfl, h5, ht⟩ | ⟨x, p, l1', l2', rfl, rfl, hx, h'⟩
    · rw [sg0 hk] at hs; cases hs
    · have := h.len
      exact (sim_lsF (sim_mtI q1 q2) (fun l hl => ⟨_, mtI0 hl⟩) _ _ _ _ _ _ (by omega) h').mono (by simp)
  · exact Ot.good rfl h (Nat.le_refl _)
theorem sim_wnP (q1 q2 : Int) : Sim Z Eq (wnP q1) (wnP q2) := by
  intro l1 l2 h
  unfold wnP
  rw [← h.sg q1 q2 (by decide)]
  split
  · exact Ot.good rfl h (Nat.le_refl _)
  · rename_i hs
    rcases h.cases q1 with ⟨hk, _, c, R, rfl, h5, ht⟩ | ⟨x, p, l1', l2', rfl, rfl, hx, h'⟩
    · exact absurd (sg0 hk) hs
    · rcases h'.cases q1 with ⟨hk, _, c, R, rfl, h5, ht⟩ | ⟨y, p', m1, m2, rfl, rfl, hy, h''⟩
      · rw [List.tail_cons, if_pos (by rw [hk]; decide)]; exact Ot.bad
      · show Ot Z _ _ (if y.k ≠ 3 then .inl _ else if sg (hd q1 m1) [93] = false then .inl _ else .inr (y.d, m1.tail)) (if y.k ≠ 3 then .inl _ else if sg (hd q2 m2) [93] = false then .inl _ else .inr (y.d, m2.tail))
        split
        · exact Ot.bad
        · rw [← h''.sg q1 q2 (by decide)]
          split
          · exact Ot.bad
          · rename_i hs2
            rcases h''.cases q1 with ⟨hk, _, c, R, rfl, h5, ht⟩ | ⟨z, p'', n1, n2, rfl, rfl, hz, h'''⟩
            · exact absurd (sg0 hk) hs2
            · exact Ot.good rfl h''' (by simp; omega)
theorem sim_selP (q1 q2 : Int) : Sim Z Eqx (selP q1) (selP q2) := by
  intro l1 l2 h
  unfold selP
  have hA : selA q1 l1 = selA q2 l2 ∧ Rl Z (selL q1 l1) (selL q2 l2) ∧ (selL q1 l1).length ≤ l1.length := by
    unfold selA selL
    rcases h.cases q1 with ⟨hk, _, c, R, rfl, h5, ht⟩ | ⟨x, p, l1', l2', rfl, rfl, hx, h'⟩
    · have e : (hd q2 (c :: R)).k = 5 := h5
      rw [if_neg (by rw [hk]; decide), if_neg (by rw [e]; decide), if_neg (by rw [hk]; decide), if_neg (by rw [e]; decide)]
      exact ⟨rfl, h, Nat.le_refl _⟩
    · show (if x.k = 1 then [(⟨nmL, 1, x.t⟩ : Mt)] else []) = (if x.k = 1 then [(⟨nmL, 1, x.t⟩ : Mt)] else []) ∧ Rl Z (if x.k = 1 then l1' else x :: l1') (if x.k = 1 then l2' else x.put p :: l2') ∧ _
      refine ⟨rfl, ?_, ?_⟩
      · split
        · exact h'
        · exact h
      · show (if x.k = 1 then l1' else x :: l1').length ≤ _
        split <;> simp
  obtain ⟨hA1, hA2, hA3⟩ := hA
  rw [← hA1]
  refine ((sim_brP q1 q2 _ _ _ hA2).mono hA3).bnd ?_
  rintro a _ r s hn rfl hr
  refine ((sim_wnP q1 q2 _ _ hr).mono hn).bnd ?_
  rintro b _ r' s' hn' rfl hr'
  exact Ot.good (eqx_sel _ _ _ _) hr' hn'
theorem Rl.mod {l1 l2 : List Tk} (h : Rl Z l1 l2) (q1 q2 : Int) : hasMod q1 l1 = hasMod q2 l2 := by
  unfold hasMod
  rcases h.cases q1 with ⟨hk, _, c, R, rfl, h5, ht⟩ | ⟨x, p, l1', l2', rfl, rfl, hx, h'⟩
  · have e : (hd q2 (c :: R)).k = 5 := h5
    rw [hk, e]
    rfl
  · rw [List.tail_cons, List.tail_cons, h'.sg q1 q2 (by decide)]
    rfl
theorem sim_modP (q1 q2 : Int) : Sim Z Eq (modP q1) (modP q2) := by
  intro l1 l2 h
  unfold modP
  rw [← h.mod q1 q2]
  split
  · exact Ot.good rfl h (Nat.le_refl _)
  · rename_i hm
    rcases h.cases q1 with ⟨hk, _, c, R, rfl, h5, ht⟩ | ⟨x, p, l1', l2', rfl, rfl, hx, h'⟩
    · exfalso
      apply hm
      unfold hasMod
      rw [hk]
      rfl
    · refine ((sim_nmP q1 q2 _ _ h').mono (by simp)).bnd ?_
      rintro b _ r' s' hn' rfl hr'
      exact Ot.good rfl hr' hn'
theorem Rl.op {l1 l2 : List Tk} (h : Rl Z l1 l2) (q1 q2 : Int) {lev : Int} (hl : 1 ≤ lev) : isOp q1 lev l1 = isOp q2 lev l2 := by
  unfold isOp
  rcases h.cases q1 with ⟨hk, _, c, R, rfl, h5, ht⟩ | ⟨x, p, l1', l2', rfl, rfl, hx, h'⟩
  · have e : (hd q2 (c :: R)).t = [41] := ht
    rw [hk, e]
    have : (lv [41] == lev) = false := by rw [show lv [41] = 0 by decide]; rw [beq_eq_false_iff_ne]; omega
    rw [this, Bool.and_false]
    rfl
  · rfl
theorem sim_chF {q1 q2 lev : Int} (hlev : 1 ≤ lev) {u1 u2 : List Tk → Rs Ex} (hu : Sim Z Eqx u1 u2) : ∀ (f1 f2 : Nat) (e1 e2 : Ex) (l1 l2 : List Tk), l1.length < f1 → f1 ≤ f2 → Eqx e1 e2 → Rl Z l1 l2 → Ot Z l1.length Eqx (chF q1 lev u1 f1 e1 l1) (chF q2 lev u2 f2 e2 l2)
  | 0, f2, e1, e2, l1, l2, hf, _, _, _ => by omega
  | f1 + 1, 0, e1, e2, l1, l2, _, hf, _, _ => by omega
  | f1 + 1, f2 + 1, e1, e2, l1, l2, hl, hf, he, h => by
    rw [chF, chF, ← h.op q1 q2 hlev]
    split
    · exact Ot.good he h (Nat.le_refl _)
    · rename_i ho
      rcases h.cases q1 with ⟨hk, _, c, R, rfl, h5, ht⟩ | ⟨x, p, l1', l2', rfl, rfl, hx, h'⟩
      · exfalso
        apply ho
        unfold isOp
        rw [hk]
        rfl
      · have hj : Ot Z l1'.length Eqx (joinP q1 u1 e1 (x :: l1')) (joinP q2 u2 e2 (x.put p :: l2')) := by
          unfold joinP
          refine (sim_modP q1 q2 _ _ h').bnd ?_
          rintro b _ r s hn rfl hr
          refine ((hu _ _ hr).mono hn).bnd ?_
          intro y y' r' s' hn' hy hr'
          exact Ot.good (eqx_bin _ _ _ _ _ _ he hy) hr' hn'
        simp at hl
        refine Ot.mono (n := l1'.length) (hj.bnd ?_) (by simp)
        intro y y' r s hn hy hr
        exact (sim_chF hlev hu f1 f2 y y' r s (by omega) (by omega) hy hr).mono hn
theorem sim_chP {q1 q2 lev : Int} (hlev : 1 ≤ lev) {u1 u2 : List Tk → Rs Ex} (hu : Sim Z Eqx u1 u2) : Sim Z Eqx (chP q1 lev u1) (chP q2 lev u2) := by
  intro l1 l2 h
  unfold chP
  refine (hu _ _ h).bnd ?_
  intro x y r s hn hx hr
  have := hr.len
  exact (sim_chF hlev hu _ _ x y r s (by dsimp only; omega) (by dsimp only; omega) hx hr).mono hn
theorem sim_cmp {q1 q2 : Int} {u1 u2 : List Tk → Rs Ex} (hu : Sim Z Eqx u1 u2) : Sim Z Eqx (cmpP q1 u1) (cmpP q2 u2) :=
  sim_chP (by decide) (sim_chP (by decide) (sim_chP (by decide) hu))
theorem sim_brk {q1 q2 : Int} {c1 c2 : List Tk → Rs Ex} (hc : Sim Z Eqx c1 c2) : Sim Z Eqx (brkP q1 c1) (brkP q2 c2) := by
  intro l1 l2 h
  unfold brkP
  rw [← h.sg q1 q2 (by decide)]
  split
  · exact Ot.bad
  · rename_i hs
    rcases h.cases q1 with ⟨hk, _, c, R, rfl, h5, ht⟩ | ⟨x, p, l1', l2', rfl, rfl, hx, h'⟩
    · exact absurd (sg0 hk) hs
    · refine ((hc _ _ h').mono (m := (x :: l1').length) (by simp)).bnd ?_
      intro a b r s hn ha hr
      rcases hr.cases q1 with ⟨hk, _, c, R, rfl, h5, ht⟩ | ⟨y, p', r', s', rfl, rfl, hy, hr'⟩
      · show Ot Z _ _ (if sg (hd q1 r) [41] = true then _ else _) _
        rw [sg0 hk]
        exact Ot.bad
      · show Ot Z _ _ (if sg y [41] = true then .inr (a, r') else .inl _) (if sg y [41] = true then .inr (b, s') else .inl _)
        split
        · exact Ot.good ha hr' (by simp at hn ⊢; omega)
        · exact Ot.bad
theorem sim_call {q1 q2 : Int} {c1 c2 : List Tk → Rs Ex} (hc : Sim Z Eqx c1 c2) (x : Tk) (p : Int) {l1 l2 : List Tk} (h : Rl Z l1 l2) : Ot Z (x :: l1).length Eqx (callP q1 c1 (x :: l1)) (callP q2 c2 (x.put p :: l2)) := by
  unfold callP
  refine ((sim_brk hc _ _ h).mono (m := (x :: l1).length) (by simp)).bnd ?_
  intro a b r s hn ha hr
  exact Ot.good (eqx_call _ _ _ ha) hr hn
theorem sim_grp (q1 q2 : Int) : Sim Z Eq (grpP q1) (grpP q2) := by
  intro l1 l2 h
  unfold grpP
  rcases h.cases q1 with ⟨hk, _, c, R, rfl, h5, ht⟩ | ⟨x, p, l1', l2', rfl, rfl, hx, h'⟩
  · have e : (hd q2 (c :: R)).k = 5 := h5
    rw [if_pos (by rw [hk]; decide), if_pos (by rw [e]; decide)]
    exact Ot.good rfl h (Nat.le_refl _)
  · show Ot Z _ _ (if x.k ≠ 1 then .inr (_, x :: l1') else bnd (nmP q1 l1') _) (if x.k ≠ 1 then .inr (_, x.put p :: l2') else bnd (nmP q2 l2') _)
    split
    · exact Ot.good rfl h (Nat.le_refl _)
    · refine ((sim_nmP q1 q2 _ _ h').mono (m := (x :: l1').length) (by simp)).bnd ?_
      rintro b _ r' s' hn' rfl hr'
      exact Ot.good rfl hr' hn'
theorem sim_agg {q1 q2 : Int} {c1 c2 : List Tk → Rs Ex} (hc : Sim Z Eqx c1 c2) (x : Tk) (p : Int) {l1 l2 : List Tk} (h : Rl Z l1 l2) : Ot Z (x :: l1).length Eqx (aggP q1 c1 (x :: l1)) (aggP q2 c2 (x.put p :: l2)) := by
  unfold aggP
  refine ((sim_grp q1 q2 _ _ h).mono (m := (x :: l1).length) (by simp)).bnd ?_
  rintro a _ r s hn rfl hr
  refine ((sim_brk hc _ _ hr).mono hn).bnd ?_
  intro y y' r' s' hn' hy hr'
  exact Ot.good (eqx_agg _ _ _ _ _ _ hy) hr' hn'
theorem Rl.grp {l1 l2 : List Tk} (h : Rl Z l1 l2) (q1 q2 : Int) : ((hd q1 l1).k == 1 && isGrpB (hd q1 l1).t) = ((hd q2 l2).k == 1 && isGrpB (hd q2 l2).t) := by
  rcases h.cases q1 with ⟨hk, _, c, R, rfl, h5, ht⟩ | ⟨x, p, l1', l2', rfl, rfl, hx, h'⟩
  · have e : (hd q2 (c :: R)).k = 5 := h5
    rw [hk, e]
    rfl
  · rfl
theorem sim_nam {q1 q2 : Int} {c1 c2 : List Tk → Rs Ex} (hc : Sim Z Eqx c1 c2) (x : Tk) (p : Int) {l1 l2 : List Tk} (h : Rl Z l1 l2) (hall : Rl Z (x :: l1) (x.put p :: l2)) : Ot Z (x :: l1).length Eqx (namP q1 c1 (x :: l1)) (namP q2 c2 (x.put p :: l2)) := by
  unfold namP
  rw [List.tail_cons, List.tail_cons, ← h.sg q1 q2 (by decide), ← h.grp q1 q2]
  have e : hd q2 (x.put p :: l2) = x.put p := rfl
  have e' : hd q1 (x :: l1) = x := rfl
  rw [e, e']
  show Ot Z _ _ _ (if (isAggB x.t && _) = true then _ else if (isModB x.t && _) = true then _ else _)
  split
  · exact sim_agg hc x p h
  · split
    · exact Ot.bad
    · split
      · exact sim_call hc x p h
      · exact sim_selP q1 q2 _ _ hall
theorem sim_prm {q1 q2 : Int} {c1 c2 : List Tk → Rs Ex} (hc : Sim Z Eqx c1 c2) : Sim Z Eqx (prmP q1 c1) (prmP q2 c2) := by
  intro l1 l2 h
  rcases h.cases q1 with ⟨hk, _, c, R, rfl, h5, ht⟩ | ⟨x, p, l1', l2', rfl, rfl, hx, h'⟩
  · unfold prmP
    rw [if_neg (by rw [hk]; decide), if_neg (by rw [hk]; decide), sg0 hk, sg0 hk, if_neg (by decide), if_neg (by decide)]
    exact Ot.bad
  · have h1 := sim_nam (q1 := q1) (q2 := q2) hc x p h' h
    have h2 := sim_brk (q1 := q1) (q2 := q2) hc _ _ h
    have h3 := sim_selP q1 q2 _ _ h
    show Ot Z _ _ (if x.k = 2 then .inr (eNum x.p x.o x.n, l1') else if x.k = 1 then namP q1 c1 (x :: l1') else if sg x [40] = true then brkP q1 c1 (x :: l1') else if sg x [123] = true then selP q1 (x :: l1') else .inl _) (if x.k = 2 then .inr (eNum p x.o x.n, l2') else if x.k = 1 then namP q2 c2 (x.put p :: l2') else if sg x [40] = true then brkP q2 c2 (x.put p :: l2') else if sg x [123] = true then selP q2 (x.put p :: l2') else .inl _)
    split
    · exact Ot.good (eqx_num _ _ _ _) h' (by simp)
    · split
      · exact h1
      · split
        · exact h2
        · split
          · exact h3
          · exact Ot.bad
theorem sim_un {q1 q2 : Int} {n1 n2 c1 c2 : List Tk → Rs Ex} (hn : Sim Z Eqx n1 n2) (hc : Sim Z Eqx c1 c2) : Sim Z Eqx (unP q1 n1 c1) (unP q2 n2 c2) := by
  intro l1 l2 h
  unfold unP
  rw [← h.sg q1 q2 (by decide)]
  split
  · exact sim_prm hc _ _ h
  · rename_i hs
    rcases h.cases q1 with ⟨hk, _, c, R, rfl, h5, ht⟩ | ⟨x, p, l1', l2', rfl, rfl, hx, h'⟩
    · exact absurd (sg0 hk) hs
    · refine ((hn _ _ h').mono (m := (x :: l1').length) (by simp)).bnd ?_
      intro a b r s hn ha hr
      exact Ot.good (eqx_neg _ _ ha) hr hn
theorem sim_deep {q : Int} {f : List Tk → Rs Ex} : Sim Z Eqx f (Go.Proofs.YtkppcgimhnocdaaGreatDoor.deep q) := fun _ _ _ => Ot.deep
theorem sim_unD (q1 q2 : Int) : ∀ (d2 d1 : Nat), d2 ≤ d1 → Sim Z Eqx (unD q1 d1) (unD q2 d2)
  | 0, d1, _ => by
    rw [unD_eq q1, unD_eq q2]
    exact sim_un sim_deep sim_deep
  | d2 + 1, 0, h => by omega
  | d2 + 1, d1 + 1, h => by
    have ih := sim_unD q1 q2 d2 d1 (by omega)
    exact sim_un ih (sim_cmp ih)
end Go.Proofs.YtkppcgimhnocdaaGreatDoor
/- What is read is small enough; its errors, their places; trees that are the same but for places: plain facts. -/
namespace Go.Proofs.YtkppcgimhnocdaaGreatDoor
open Go.RowKit

def FT (t : Tk) : Prop := 0 ≤ t.p ∧ t.t.length ≤ 1000000 ∧ -9223372036854775808 ≤ t.n ∧ t.n ≤ 9223372036854775807
theorem mo_ft {x : Mt} (h : MO FT x) : x.name.length ≤ 1000000 ∧ x.text.length ≤ 1000000 := by
  rcases h with ⟨t, ht, _, rfl⟩ | ⟨a, b, c, ha, _, hc, _, _, _, _, rfl⟩
  · exact ⟨by show nmL.length ≤ _; decide, ht.2.1⟩
  · exact ⟨ha.2.1, hc.2.1⟩
theorem once_len {ns : List Str} (h : fewN ns = true) : ns.length ≤ 8 := by
  unfold fewN at h
  rw [Bool.and_eq_true, decide_eq_true_eq] at h
  exact h.1
theorem go_ft {b c : Bool} {ns : List Str} (h : GO FT b c ns) : ns.length ≤ 8 ∧ ∀ x ∈ ns, x.length ≤ 1000000 := by
  rcases h with ⟨_, _, rfl⟩ | ⟨_, hf, hn⟩
  · exact ⟨by simp, fun x hx => by simp at hx⟩
  · refine ⟨once_len hf, fun x hx => ?_⟩
    obtain ⟨t, ht, _, rfl⟩ := hn x hx
    exact ht.2.1
theorem fine_ok : RdOK FT (fun n e => smB e = true ∧ sz e ≤ n) := {
  num := fun t ht _ => by
    unfold eNum
    rw [smB_mk, smBL, sz_mk, szL]
    obtain ⟨_, h2, h3, h4⟩ := ht
    simp [h3, h4]
  sel := fun p m r hm hl _ => by
    unfold eSel
    rw [smB_mk, smBL, sz_mk, szL]
    have h1 : m.all (fun x => decide (x.name.length ≤ 1000000) && decide (x.text.length ≤ 1000000)) = true := by
      rw [List.all_eq_true]
      intro x hx
      have := mo_ft (hm x hx)
      simp [this.1, this.2]
    have h2 : m.length ≤ 1000000 := by omega
    simp [h1, h2]
  call := fun n t a ht _ _ _ ha => by
    unfold eCall
    rw [smB_mk, smBL, smBL, sz_mk, szL, szL, ha.1]
    simp [ht.2.1]
    omega
  agg := fun n t b1 b2 ns a ht _ hg ha => by
    unfold eAgg
    rw [smB_mk, smBL, smBL, sz_mk, szL, szL, ha.1]
    obtain ⟨g1, g2⟩ := go_ft hg
    have h1 : ns.all (fun x => decide (x.length ≤ 1000000)) = true := by
      rw [List.all_eq_true]
      intro x hx
      simp [g2 x hx]
    have h2 : ns.length ≤ 1000000 := by omega
    simp [ht.2.1, h1, h2]
    omega
  bin := fun n m t b3 b4 ns a b ht _ _ hg ha hb => by
    unfold eBin
    rw [smB_mk, smBL, smBL, smBL, sz_mk, szL, szL, szL, ha.1, hb.1]
    obtain ⟨g1, g2⟩ := go_ft hg
    have h1 : ns.all (fun x => decide (x.length ≤ 1000000)) = true := by
      rw [List.all_eq_true]
      intro x hx
      simp [g2 x hx]
    have h2 : ns.length ≤ 1000000 := by omega
    simp [ht.2.1, h1, h2]
    omega
  neg := fun n t a ht ha => by
    unfold eNeg
    rw [smB_mk, smBL, smBL, sz_mk, szL, szL, ha.1]
    simp
    omega }
theorem okt_ft {y : Tk} {p : Int} (h : Okt y) (hp : 0 ≤ p) : FT (y.put p) := by
  rcases h with ⟨s, hs, rfl⟩ | ⟨v, h1, h2, rfl⟩ | ⟨n, h1, h2, rfl⟩ | ⟨s, h1, _, rfl⟩ | ⟨s, hs, rfl⟩
  · have := name_len hs
    exact ⟨hp, by show s.length ≤ _; omega, (by decide : (-9223372036854775808 : Int) ≤ 0), (by decide : (0 : Int) ≤ 9223372036854775807)⟩
  · exact ⟨hp, by simp [Tk.put, tNum], by show _ ≤ v; omega, h2⟩
  · exact ⟨hp, by simp [Tk.put, tDur], (by decide : (-9223372036854775808 : Int) ≤ 0), (by decide : (0 : Int) ≤ 9223372036854775807)⟩
  · exact ⟨hp, by show s.length ≤ _; omega, (by decide : (-9223372036854775808 : Int) ≤ 0), (by decide : (0 : Int) ≤ 9223372036854775807)⟩
  · have := sign_len hs
    exact ⟨hp, by show s.length ≤ _; omega, (by decide : (-9223372036854775808 : Int) ≤ 0), (by decide : (0 : Int) ≤ 9223372036854775807)⟩
theorem okt_k {y : Tk} (h : Okt y) : y.k ≠ 0 := by
  rcases h with ⟨s, _, rfl⟩ | ⟨v, _, _, rfl⟩ | ⟨n, _, _, rfl⟩ | ⟨s, _, _, rfl⟩ | ⟨s, _, rfl⟩ <;> exact fun h => by cases h
theorem sc_toks {s : Str} {l : List Tk} (h : sc s = .inr l) : l.length ≤ s.length ∧ ∀ x ∈ l, ∃ y p, Okt y ∧ x = y.put p ∧ 0 ≤ p := by
  unfold sc at h
  obtain ⟨g1, g2, _⟩ := (scanG_facts s.length (lead s).length (lead s) (Nat.le_refl _) (lead_le s)).2 l h
  have := lead_le s
  refine ⟨by omega, fun x hx => ?_⟩
  obtain ⟨y, p, h1, h2, h3, _⟩ := g2 x hx
  exact ⟨y, p, h1, h2, h3⟩
/-- A text that can be read: its signs, and what is read. -/
theorem ps_good {s : Str} (h : psE s = 0) : s.length ≤ 600 ∧ ∃ l e, sc s = .inr l ∧ rdP (l ++ [tEnd s.length]) = .inr e ∧ psX s = e ∧ scE s = 0 ∧ scL s = l ++ [tEnd s.length] := by
  unfold psE at h
  by_cases he : scE s = 0
  · rw [if_pos he] at h
    have hb : s.length ≤ 600 := by
      by_cases hb : 600 < s.length
      · rw [(sc_big hb).1] at he; cases he
      · omega
    refine ⟨hb, ?_⟩
    rcases sc_cases hb with ⟨p, _, e2, _, _⟩ | ⟨l, e1, _, _, e4⟩
    · rw [e2] at he; cases he
    · rw [e4] at h
      unfold rdE at h
      cases hr : rdP (l ++ [tEnd s.length]) with
      | inl er =>
        rw [hr] at h
        obtain ⟨h1, _⟩ := rd_all (T := fun _ => True) (E := fun _ => True) (X := fun _ _ => True) (fun _ _ => trivial) trivial ⟨fun _ _ _ => trivial, fun _ _ _ _ _ _ => trivial, fun _ _ _ _ _ _ _ _ => trivial, fun _ _ _ _ _ _ _ _ _ _ => trivial, fun _ _ _ _ _ _ _ _ _ _ _ _ _ _ => trivial, fun _ _ _ _ _ => trivial⟩ (l := l ++ [tEnd s.length]) (fun _ _ => trivial)
        have h : er.2 = 0 := h
        have := (h1 er hr).2
        omega
      | inr e => exact ⟨l, e, e1, hr, by unfold psX rdX; rw [if_pos he, e4, hr], he, e4⟩
  · rw [if_neg he] at h
    exact absurd h he
theorem scL_ft (s : Str) : All FT (scL s) := by
  by_cases hb : 600 < s.length
  · rw [(sc_big hb).2.2]
    intro t ht
    simp at ht
  · rcases sc_cases (s := s) (by omega) with ⟨p, _, _, _, e4⟩ | ⟨l, e1, _, _, e4⟩
    · rw [e4]
      intro t ht
      simp at ht
    · rw [e4]
      intro t ht
      rcases List.mem_append.1 ht with ht | ht
      · obtain ⟨y, p, h1, rfl, h3⟩ := (sc_toks e1).2 t ht
        exact okt_ft h1 h3
      · simp at ht
        subst ht
        exact ⟨by show (0 : Int) ≤ (s.length : Nat); omega, by simp [tEnd], by show (-9223372036854775808 : Int) ≤ 0; decide, by show (0 : Int) ≤ 9223372036854775807; decide⟩
/-- What is read of whatever text is small enough, and its place is none below nought. -/
theorem ps_fine (s : Str) : smB (psX s) = true ∧ sz (psX s) ≤ s.length + 1 ∧ 0 ≤ psA s := by
  have h0 : smB ex0 = true ∧ sz ex0 ≤ s.length + 1 := by
    unfold ex0
    rw [smB_mk, smBL, sz_mk, szL]
    simp
  unfold psX psA
  by_cases he : scE s = 0
  · rw [if_pos he, if_pos he]
    obtain ⟨r1, r2⟩ := rd_all (T := FT) (E := fun p => 0 ≤ p) (fun t ht => ht.1) (by decide) fine_ok (scL_ft s)
    have hl := (scL_facts s).1
    unfold rdX rdA
    cases hr : rdP (scL s) with
    | inl er => exact ⟨h0.1, h0.2, (r1 er hr).1⟩
    | inr e =>
      obtain ⟨k, ⟨a, b⟩, c⟩ := r2 e hr
      exact ⟨a, by show sz e ≤ _; omega, by show (0 : Int) ≤ 0; decide⟩
  · rw [if_neg he, if_neg he]
    exact ⟨h0.1, h0.2, (scL_facts s).2.2.1⟩
/-! ### The same, but for places -/
theorem msEq_refl : ∀ m, msEq m m = true
  | [] => by simp [msEq]
  | x :: m => by rw [msEq, msEq_refl m]; simp [mEq]
theorem strL_len : ∀ l, (strL l).length = l.length
  | [] => by rw [strL]
  | x :: l => by rw [strL, List.length_cons, List.length_cons, strL_len l]
theorem smL_of : ∀ (l m : List Ex), (∀ x ∈ l, ∀ y, str x = str y → smE x y = true) → strL l = strL m → smL l m = true
  | [], [], _, _ => by rw [smL]
  | [], y :: m, _, h => by rw [strL, strL] at h; cases h
  | x :: l, [], _, h => by rw [strL, strL] at h; cases h
  | x :: l, y :: m, hi, h => by
    rw [strL, strL] at h
    injection h with h1 h2
    rw [smL, hi x (by simp) y h1, smL_of l m (fun z hz => hi z (by simp [hz])) h2]
    rfl
theorem smE_of (a : Ex) : ∀ (b : Ex), str a = str b → smE a b = true := by
  refine Ex.ind (fun a => ∀ b, str a = str b → smE a b = true) ?_ a
  rintro ⟨k, p, o, v, s, m, r, b1, b2, b3, b4, ns, ks⟩ ih ⟨k', p', o', v', s', m', r', b1', b2', b3', b4', ns', ks'⟩ h
  rw [str_mk, str_mk] at h
  injection h with h1 h2 h3 h4 h5 h6 h7 h8 h9 h10 h11 h12 h13
  subst h1 h3 h4 h5 h6 h7 h8 h9 h10 h11 h12
  rw [smE_mk, smL_of ks ks' ih h13]
  simp [alk, nEq, msEq_refl]
theorem smE_eqx {a b : Ex} (h : Eqx a b) : smE a b = true := smE_of a b h
end Go.Proofs.YtkppcgimhnocdaaGreatDoor
/- Brackets round a text: plain facts. -/
namespace Go.Proofs.YtkppcgimhnocdaaGreatDoor
open Go.RowKit

def brT (s : Str) : Nat → Str
  | 0 => s
  | k + 1 => 40 :: (brT s k ++ [41])
theorem brT_len (s : Str) : ∀ k, (brT s k).length = s.length + 2 * k
  | 0 => rfl
  | k + 1 => by rw [brT]; simp [brT_len s k]; omega
def Ops (O : List Tk) : Prop := ∀ o ∈ O, o.k = 5 ∧ o.t = [40]
def Cls (C : List Tk) : Prop := ∀ c ∈ C, c.k = 5 ∧ c.t = [41]
theorem map_put_sh (l : List Tk) (q : Int) : (l.map (sh q)).map (Tk.put · 0) = l.map (Tk.put · 0) := by
  rw [List.map_map]
  rfl
theorem brT_sc {s : Str} {l : List Tk} (h : sc s = .inr l) : ∀ k, ∃ O L C, sc (brT s k) = .inr (O ++ (L ++ C)) ∧ O.length = k ∧ C.length = k ∧ Ops O ∧ Cls C ∧ l.map (Tk.put · 0) = L.map (Tk.put · 0)
  | 0 => ⟨[], l, [], by simpa [brT] using h, rfl, rfl, fun _ h => (by simp at h), fun _ h => (by simp at h), rfl⟩
  | k + 1 => by
    obtain ⟨O, L, C, h1, h2, h3, h4, h5, h6⟩ := brT_sc h k
    obtain ⟨o, c, g1, g2, g3, g4, g5⟩ := sc_round h1
    refine ⟨o :: O.map (sh 1), L.map (sh 1), C.map (sh 1) ++ [c], ?_, by simp [h2], by simp [h3], ?_, ?_, ?_⟩
    · rw [brT, g1]
      simp
    · intro x hx
      rcases List.mem_cons.1 hx with rfl | hx
      · exact ⟨g2, g3⟩
      · obtain ⟨y, hy, rfl⟩ := List.mem_map.1 hx
        exact h4 y hy
    · intro x hx
      rcases List.mem_append.1 hx with hx | hx
      · obtain ⟨y, hy, rfl⟩ := List.mem_map.1 hx
        exact h5 y hy
      · simp at hx
        subst hx
        exact ⟨g4, g5⟩
    · rw [map_put_sh]
      exact h6
/-- No operator stands there. -/
def Stp (q : Int) (R : List Tk) : Prop := (hd q R).k = 0 ∨ (hd q R).t = [41]
theorem Stp.op {q : Int} {R : List Tk} (h : Stp q R) {lev : Int} (hl : 1 ≤ lev) : isOp q lev R = false := by
  unfold isOp
  rcases h with h | h
  · rw [h]; rfl
  · rw [h, show lv [41] = 0 by decide, show ((0 : Int) == lev) = false by rw [beq_eq_false_iff_ne]; omega, Bool.and_false]
theorem ch_stop {q lev : Int} (hl : 1 ≤ lev) {u : List Tk → Rs Ex} {l R : List Tk} {e : Ex} (h : u l = .inr (e, R)) (hR : Stp q R) : chP q lev u l = .inr (e, R) := by
  unfold chP
  rw [h]
  show chF q lev u (R.length + 1) e R = _
  rw [chF, if_pos (hR.op hl)]
theorem ch_bad {q lev : Int} {u : List Tk → Rs Ex} {l : List Tk} {er : Er} (h : u l = .inl er) : chP q lev u l = .inl er := by
  unfold chP
  rw [h]
  rfl
theorem cmp_stop {q : Int} {u : List Tk → Rs Ex} {l R : List Tk} {e : Ex} (h : u l = .inr (e, R)) (hR : Stp q R) : cmpP q u l = .inr (e, R) :=
  ch_stop (by decide) (ch_stop (by decide) (ch_stop (by decide) h hR) hR) hR
theorem cmp_bad {q : Int} {u : List Tk → Rs Ex} {l : List Tk} {er : Er} (h : u l = .inl er) : cmpP q u l = .inl er := ch_bad (ch_bad (ch_bad h))
theorem un_open {q : Int} {d : Nat} {o : Tk} (h5 : o.k = 5) (ht : o.t = [40]) (l : List Tk) : unD q (d + 1) (o :: l) = brkP q (cmpP q (unD q d)) (o :: l) := by
  have e1 : sg o [45] = false := by unfold sg; rw [h5, ht]; decide
  have e2 : sg o [40] = true := by unfold sg; rw [h5, ht]; decide
  show unP q _ _ (o :: l) = _
  unfold unP
  rw [if_pos (show sg (hd q (o :: l)) [45] = false from e1)]
  unfold prmP
  rw [if_neg (show ¬ (hd q (o :: l)).k = 2 by show ¬ o.k = 2; rw [h5]; decide), if_neg (show ¬ (hd q (o :: l)).k = 1 by show ¬ o.k = 1; rw [h5]; decide), if_pos (show sg (hd q (o :: l)) [40] = true from e2)]
theorem brk_open {q : Int} {o : Tk} (h5 : o.k = 5) (ht : o.t = [40]) (c : List Tk → Rs Ex) (l : List Tk) : brkP q c (o :: l) = bnd (c l) fun x => if sg (hd q x.2) [41] = true then .inr (x.1, x.2.tail) else .inl (bad q x.2 71) := by
  have e2 : sg o [40] = true := by unfold sg; rw [h5, ht]; decide
  unfold brkP
  rw [if_neg (show ¬ sg (hd q (o :: l)) [40] = false by show ¬ sg o [40] = false; rw [e2]; decide)]
  rfl
theorem wrap {q : Int} {d : Nat} : ∀ (k : Nat) (O L C R : List Tk), O.length = k → C.length = k → Ops O → Cls C → Stp q R → (∀ e, cmpP q (unD q d) (L ++ (C ++ R)) = .inr (e, C ++ R) → cmpP q (unD q (d + k)) (O ++ (L ++ (C ++ R))) = .inr (e, R)) ∧ ∀ er, cmpP q (unD q d) (L ++ (C ++ R)) = .inl er → cmpP q (unD q (d + k)) (O ++ (L ++ (C ++ R))) = .inl er
  | 0, O, L, C, R, hO, hC, _, _, _ => by
    obtain rfl := List.eq_nil_of_length_eq_zero hO
    obtain rfl := List.eq_nil_of_length_eq_zero hC
    exact ⟨fun e h => h, fun er h => h⟩
  | k + 1, O, L, C, R, hO, hC, h1, h2, hR => by
    obtain ⟨o, O, rfl⟩ : ∃ o O', O = o :: O' := by
      cases O with
      | nil => simp at hO
      | cons o O => exact ⟨o, O, rfl⟩
    obtain ⟨C, c, rfl⟩ : ∃ C' c, C = C' ++ [c] := ⟨C.dropLast, C.getLast (by rintro rfl; simp at hC), (List.dropLast_concat_getLast _).symm⟩
    obtain ⟨h5, ht⟩ := h1 o (by simp)
    obtain ⟨c5, ct⟩ := h2 c (by simp)
    have hR' : Stp q (c :: R) := Or.inr ct
    obtain ⟨i1, i2⟩ := wrap (q := q) (d := d) k O L C (c :: R) (by simpa using hO) (by simpa using hC) (fun x hx => h1 x (by simp [hx])) (fun x hx => h2 x (by simp [hx])) hR'
    have e : C ++ [c] ++ R = C ++ c :: R := by simp
    rw [e]
    have ec : sg c [41] = true := by unfold sg; rw [c5, ct]; decide
    refine ⟨fun e h => ?_, fun er h => ?_⟩
    · refine cmp_stop ?_ hR
      show unD q (d + k + 1) (o :: (O ++ (L ++ (C ++ c :: R)))) = _
      rw [un_open h5 ht, brk_open h5 ht, i1 e h]
      show (if sg (hd q (c :: R)) [41] = true then _ else _) = _
      rw [if_pos (show sg (hd q (c :: R)) [41] = true from ec)]
      rfl
    · refine cmp_bad ?_
      show unD q (d + k + 1) (o :: (O ++ (L ++ (C ++ c :: R)))) = _
      rw [un_open h5 ht, brk_open h5 ht, i2 er h]
      rfl
/-- A text that can be read, in brackets, is read as the same, or is nested too deep. -/
theorem brk_read {s : Str} {l : List Tk} {e : Ex} {k : Nat} (hs : sc s = .inr l) (h0 : ∀ x ∈ l, x.k ≠ 0) (hl : s.length + 2 * k ≤ 600) (hk1 : 1 ≤ k) (hk : k ≤ 15) (hr : rdP (l ++ [tEnd s.length]) = .inr e) : scE (brT s k) = 0 ∧ ((∃ e', rdP (scL (brT s k)) = .inr e' ∧ Eqx e e') ∨ ∃ p, rdP (scL (brT s k)) = .inl (p, 72)) := by
  obtain ⟨O, L, C, g1, g2, g3, g4, g5, g6⟩ := brT_sc hs k
  have hlen := brT_len s k
  obtain ⟨e1, _, e3⟩ := sc_ok (s := brT s k) (by omega) g1
  refine ⟨e1, ?_⟩
  rw [e3]
  unfold rdP
  generalize endP (O ++ (L ++ C) ++ [tEnd (brT s k).length]) = q2
  have hE : (tEnd (brT s k).length).k = 0 := rfl
  generalize tEnd (brT s k).length = E2 at *
  unfold rdP at hr
  generalize endP (l ++ [tEnd s.length]) = q1 at hr
  unfold whP at hr
  cases hc : cmpP q1 (unD q1 15) (l ++ [tEnd s.length]) with
  | inl er => rw [hc] at hr; cases hr
  | inr x =>
    obtain ⟨x, r⟩ := x
    rw [hc] at hr
    have hr : (if (hd q1 r).k = 0 then .inr x else .inl (bad q1 r 71)) = (Sum.inr e : Er ⊕ Ex) := hr
    have hz : (hd q1 r).k = 0 := by
      by_cases hz : (hd q1 r).k = 0
      · exact hz
      · rw [if_neg hz] at hr; cases hr
    rw [if_pos hz] at hr
    injection hr with hr
    subst hr
    have hE2 : E2.k = 0 := hE
    have hrl : Rl (C ++ [E2]) (l ++ [tEnd s.length]) (L ++ (C ++ [E2])) := by
      refine ⟨l, L, [tEnd s.length], C ++ [E2], rfl, rfl, g6, h0, Or.inr ⟨_, rfl, rfl⟩, rfl, ?_⟩
      cases C with
      | nil => simp at g3; omega
      | cons c C => exact ⟨c, C ++ [E2], rfl, g5 c (by simp)⟩
    have hw := wrap (q := q2) (d := 15 - k) k O L C [E2] g2 g3 g4 g5 (Or.inl hE2)
    rw [show 15 - k + k = 15 by omega] at hw
    have ea : O ++ (L ++ C) ++ [E2] = O ++ (L ++ (C ++ [E2])) := by simp
    unfold whP
    rw [ea]
    rcases sim_cmp (q1 := q1) (q2 := q2) (sim_unD q1 q2 (15 - k) 15 (by omega)) _ _ hrl x r hc with ⟨_, e2, r2, f1, f2, f3⟩ | ⟨p, f1⟩
    · obtain rfl := f3.rest hz
      refine Or.inl ⟨e2, ?_, f2⟩
      rw [hw.1 e2 f1]
      show (if (hd q2 [E2]).k = 0 then _ else _) = _
      rw [if_pos (show (hd q2 [E2]).k = 0 from hE2)]
    · refine Or.inr ⟨p, ?_⟩
      rw [hw.2 _ f1]
      rfl
end Go.Proofs.YtkppcgimhnocdaaGreatDoor
/- What is printed is read as the same, piece by piece: plain facts. -/
namespace Go.Proofs.YtkppcgimhnocdaaGreatDoor
open Go.RowKit

/-! ### The same signs, at whatever places -/
def Qs (a b : List Tk) : Prop := a.map (Tk.put · 0) = b.map (Tk.put · 0)
theorem Qs.refl (a : List Tk) : Qs a a := rfl
theorem Qs.nil {l : List Tk} (h : Qs l []) : l = [] := by
  unfold Qs at h
  simpa using h
theorem Qs.cons {l ts : List Tk} {x : Tk} (h : Qs l (x :: ts)) : ∃ p l', l = x.put p :: l' ∧ Qs l' ts := by
  unfold Qs at h
  cases l with
  | nil => simp at h
  | cons y l =>
    rw [List.map_cons, List.map_cons] at h
    injection h with h1 h2
    exact ⟨y.p, l, by rw [← put_eq h1.symm], h2⟩
theorem Qs.app {l a b : List Tk} (h : Qs l (a ++ b)) : ∃ l1 l2, l = l1 ++ l2 ∧ Qs l1 a ∧ Qs l2 b := by
  unfold Qs at h
  rw [List.map_append] at h
  obtain ⟨l1, l2, rfl, h1, h2⟩ := List.map_eq_append_iff.1 h
  exact ⟨l1, l2, rfl, h1, h2⟩
/-! ### Signs of a text, at whatever places -/
def Lx (s : Str) (l : List Tk) : Prop := ∀ n, s.length ≤ n → ∃ l', scanG n (lead s) = .inr l' ∧ Qs l' l
theorem Lx.nil : Lx [] [] := fun n _ => ⟨[], scanG_nil n, rfl⟩
theorem Lx.sp {r : Str} {l : List Tk} (h : Lx r l) : Lx (32 :: r) l := fun n hn => by
  rw [lead_blank (by decide)]
  exact h n (by simp at hn; omega)
theorem Lx.tok {x : Tk} {r : Str} {l : List Tk} (hx : Okt x) (ht : Go.Proofs.YtkppcgimhnocdaaGreatDoor.tok (prT x ++ r) = some (x, (prT x).length)) (h : Lx r l) : Lx (prT x ++ r) (x :: l) := fun n hn => by
  obtain ⟨c, q, e, hb⟩ := pr_head hx
  have hne : prT x ++ r ≠ [] := by rw [e]; simp
  have hl : lead (prT x ++ r) = prT x ++ r := by rw [e]; exact lead_cons hb
  have hk : 1 ≤ (prT x).length := by rw [e]; simp
  obtain ⟨l', h1, h2⟩ := h n (by simp at hn; omega)
  refine ⟨x.put ((n - (prT x ++ r).length : Nat) : Int) :: l', ?_, ?_⟩
  · rw [hl, scanG_some hne ht hk, List.drop_left, h1]
    rfl
  · unfold Qs at h2 ⊢
    rw [List.map_cons, List.map_cons, h2]
    rfl
/-- What stands there ends what stood ahead of it. -/
def Sp (r : Str) : Prop := r = [] ∨ ∃ c b, r = c :: b ∧ stp c = true
theorem Sp.of {c : UInt8} (h : stp c = true) (b : Str) : Sp (c :: b) := Or.inr ⟨c, b, rfl, h⟩
theorem tok_sp {x : Tk} {r : Str} (hx : Okt x) (hr : Sp r) : Go.Proofs.YtkppcgimhnocdaaGreatDoor.tok (prT x ++ r) = some (x, (prT x).length) := by
  have h0 := tok_print (r := []) hx (Or.inl rfl)
  rw [List.append_nil] at h0
  rcases hr with rfl | ⟨c, b, rfl, hc⟩
  · rw [List.append_nil]; exact h0
  · obtain ⟨c', q, e, _⟩ := pr_head hx
    exact tok_stop hc b (by rw [e]; simp) h0
theorem Lx.one {x : Tk} {r : Str} {l : List Tk} (hx : Okt x) (hr : Sp r) (h : Lx r l) : Lx (prT x ++ r) (x :: l) := Lx.tok hx (tok_sp hx hr) h
theorem okt_sign {s : Str} (h : isSg s = true) : Okt (tSign s) := Or.inr (Or.inr (Or.inr (Or.inr ⟨s, h, rfl⟩)))
theorem okt_ident {s : Str} (h : fName s = true) : Okt (tIdent s) := Or.inl ⟨s, h, rfl⟩
theorem okt_text {s : Str} (h : s.length ≤ 30) (h' : s.contains 10 = false) : Okt (tText s) := Or.inr (Or.inr (Or.inr (Or.inl ⟨s, h, h', rfl⟩)))
theorem Lx.ident {s r : Str} {l : List Tk} (hs : fName s = true) (hr : Sp r) (h : Lx r l) : Lx (s ++ r) (tIdent s :: l) := Lx.one (okt_ident hs) hr h
theorem Lx.sign {s r : Str} {l : List Tk} (hs : isSg s = true) (hr : Sp r) (h : Lx r l) : Lx (s ++ r) (tSign s :: l) := Lx.one (okt_sign hs) hr h
/-- A sign that no other begins with. -/
def loneC (c : UInt8) : Bool := [40, 41, 123, 125, 91, 93, 44, 45].contains c
theorem tok_lone {c : UInt8} (h : loneC c = true) (r : Str) : Go.Proofs.YtkppcgimhnocdaaGreatDoor.tok (c :: r) = some (tSign [c], 1) := by
  have hc : c = 40 ∨ c = 41 ∨ c = 123 ∨ c = 125 ∨ c = 91 ∨ c = 93 ∨ c = 44 ∨ c = 45 := by
    unfold loneC at h
    simpa using h
  have n1 : digB c = false := by rcases hc with rfl | rfl | rfl | rfl | rfl | rfl | rfl | rfl <;> decide
  have n2 : nameCh c = false := by rcases hc with rfl | rfl | rfl | rfl | rfl | rfl | rfl | rfl <;> decide
  have n3 : c ≠ 34 := by rcases hc with rfl | rfl | rfl | rfl | rfl | rfl | rfl | rfl <;> decide
  have n4 : isSg [c] = true := by rcases hc with rfl | rfl | rfl | rfl | rfl | rfl | rfl | rfl <;> decide
  unfold Go.Proofs.YtkppcgimhnocdaaGreatDoor.tok
  rw [List.headD_cons, if_neg (by rw [n1]; decide), if_neg (by rw [n2]; decide), if_neg n3]
  unfold tkSg
  rw [if_neg, if_pos]
  · rfl
  · exact n4
  · rintro ⟨_, hs⟩
    have := sign_cases hs
    cases r with
    | nil => rcases hc with rfl | rfl | rfl | rfl | rfl | rfl | rfl | rfl <;> simp at *
    | cons d r => rcases hc with rfl | rfl | rfl | rfl | rfl | rfl | rfl | rfl <;> simp at this
theorem Lx.loneC {c : UInt8} {r : Str} {l : List Tk} (hc : Go.Proofs.YtkppcgimhnocdaaGreatDoor.loneC c = true) (h : Lx r l) : Lx (c :: r) (tSign [c] :: l) := by
  have n4 : isSg [c] = true := by
    have hc : c = 40 ∨ c = 41 ∨ c = 123 ∨ c = 125 ∨ c = 91 ∨ c = 93 ∨ c = 44 ∨ c = 45 := by
      unfold Go.Proofs.YtkppcgimhnocdaaGreatDoor.loneC at hc
      simpa using hc
    rcases hc with rfl | rfl | rfl | rfl | rfl | rfl | rfl | rfl <;> decide
  exact Lx.tok (x := tSign [c]) (okt_sign n4) (tok_lone hc r) h
/-- A name, right behind it a matcher's sign. -/
theorem tok_name {s : Str} {c : UInt8} {b : Str} (hs : fName s = true) (hc : nameCh c = false) : Go.Proofs.YtkppcgimhnocdaaGreatDoor.tok (s ++ c :: b) = some (tIdent s, s.length) := by
  have hne := name_ne hs
  have hch := name_no hs
  have hid : idN (s ++ c :: b) = s.length := by
    unfold idN
    rw [run_app hch (fun a q e => by injection e with e _; rw [← e]; exact hc)]
  unfold Go.Proofs.YtkppcgimhnocdaaGreatDoor.tok
  rw [headD_app _ hne]
  have hd0 : digB (s.headD 0) = false := by
    unfold fName at hs
    simp only [Bool.and_eq_true, Bool.not_eq_true'] at hs
    exact hs.1.2
  have hn0 : nameCh (s.headD 0) = true := by
    cases s with
    | nil => exact absurd rfl hne
    | cons c q => exact hch c (by simp)
  rw [hd0, hn0, hid]
  simp [tkId, hs]
theorem tok_op (k : Int) (hk : fKind k = true) (r : Str) : Go.Proofs.YtkppcgimhnocdaaGreatDoor.tok (mSg k ++ 34 :: r) = some (tSign (mSg k), (mSg k).length) := by
  have h4 : k = 1 ∨ k = 2 ∨ k = 3 ∨ k = 4 := by
    unfold fKind at hk
    simp at hk
    omega
  have hq : isSg [61, 34] = false := by decide
  rcases h4 with rfl | rfl | rfl | rfl
  · show Go.Proofs.YtkppcgimhnocdaaGreatDoor.tok (61 :: 34 :: r) = some (tSign [61], 1)
    unfold Go.Proofs.YtkppcgimhnocdaaGreatDoor.tok tkSg
    rw [List.headD_cons, if_neg (by decide), if_neg (by decide), if_neg (by decide), if_neg (by rintro ⟨_, h⟩; rw [show (61 :: 34 :: r).take 2 = [61, 34] from rfl, hq] at h; cases h), if_pos (by show isSg [61] = true; decide)]
    rfl
  · show Go.Proofs.YtkppcgimhnocdaaGreatDoor.tok (33 :: 61 :: 34 :: r) = some (tSign [33, 61], 2)
    unfold Go.Proofs.YtkppcgimhnocdaaGreatDoor.tok tkSg
    rw [List.headD_cons, if_neg (by decide), if_neg (by decide), if_neg (by decide), if_pos ⟨by simp, by show isSg [33, 61] = true; decide⟩]
    rfl
  · show Go.Proofs.YtkppcgimhnocdaaGreatDoor.tok (94 :: 61 :: 34 :: r) = some (tSign [94, 61], 2)
    unfold Go.Proofs.YtkppcgimhnocdaaGreatDoor.tok tkSg
    rw [List.headD_cons, if_neg (by decide), if_neg (by decide), if_neg (by decide), if_pos ⟨by simp, by show isSg [94, 61] = true; decide⟩]
    rfl
  · show Go.Proofs.YtkppcgimhnocdaaGreatDoor.tok (42 :: 61 :: 34 :: r) = some (tSign [42, 61], 2)
    unfold Go.Proofs.YtkppcgimhnocdaaGreatDoor.tok tkSg
    rw [List.headD_cons, if_neg (by decide), if_neg (by decide), if_neg (by decide), if_pos ⟨by simp, by show isSg [42, 61] = true; decide⟩]
    rfl
theorem op_facts {k : Int} (hk : fKind k = true) : isSg (mSg k) = true ∧ mkd (mSg k) = k ∧ ∃ c b, mSg k = c :: b ∧ nameCh c = false := by
  have h4 : k = 1 ∨ k = 2 ∨ k = 3 ∨ k = 4 := by
    unfold fKind at hk
    simp at hk
    omega
  rcases h4 with rfl | rfl | rfl | rfl
  · exact ⟨by decide, by decide, 61, [], rfl, by decide⟩
  · exact ⟨by decide, by decide, 33, [61], rfl, by decide⟩
  · exact ⟨by decide, by decide, 94, [61], rfl, by decide⟩
  · exact ⟨by decide, by decide, 42, [61], rfl, by decide⟩
def tkM (x : Mt) : List Tk := [tIdent x.name, tSign (mSg x.kind), tText x.text]
theorem mat_facts {x : Mt} (h : fMat x = true) : fName x.name = true ∧ fKind x.kind = true ∧ x.text.length ≤ 30 ∧ x.text.contains 10 = false := by
  unfold fMat at h
  simp only [Bool.and_eq_true, decide_eq_true_eq, Bool.not_eq_true'] at h
  exact ⟨h.1.1.1, h.1.1.2, h.1.2, h.2⟩
theorem Lx.mat {x : Mt} (hx : fMat x = true) {r : Str} {l : List Tk} (hr : Sp r) (h : Lx r l) : Lx (mTx x ++ r) (tkM x ++ l) := by
  obtain ⟨h1, h2, h3, h4⟩ := mat_facts hx
  obtain ⟨o1, o2, c, b, o3, o4⟩ := op_facts h2
  have g1 : Lx (qtx x.text ++ r) (tText x.text :: l) := Lx.one (x := tText x.text) (okt_text h3 h4) hr h
  have e1 : qtx x.text ++ r = 34 :: (esc x.text ++ [34] ++ r) := by unfold qtx; simp
  have g2 : Lx (mSg x.kind ++ (qtx x.text ++ r)) (tSign (mSg x.kind) :: tText x.text :: l) := by
    refine Lx.tok (x := tSign (mSg x.kind)) (okt_sign o1) ?_ g1
    rw [e1]
    exact tok_op x.kind h2 _
  have g3 : Lx (x.name ++ (mSg x.kind ++ (qtx x.text ++ r))) (tIdent x.name :: tSign (mSg x.kind) :: tText x.text :: l) := by
    refine Lx.tok (x := tIdent x.name) (okt_ident h1) ?_ g2
    show Go.Proofs.YtkppcgimhnocdaaGreatDoor.tok (x.name ++ _) = _
    rw [o3]
    exact tok_name h1 o4
  unfold mTx tkM
  simpa using g3
/-! ### Lists with commas -/
def comT {α : Type} (f : α → List Tk) : List α → List Tk
  | [] => []
  | [x] => f x
  | x :: y :: l => f x ++ tSign [44] :: comT f (y :: l)
theorem join_two (x y : Str) (l : List Str) : Lib.join (x :: y :: l) [44, 32] = x ++ 44 :: 32 :: Lib.join (y :: l) [44, 32] := by
  rw [Lib.join_cons, Lib.join_cons]
  simp [Lib.joinTail]
theorem Lx.list {α : Type} {f : α → List Tk} {t : α → Str} {P : α → Prop} (hf : ∀ x, P x → ∀ {r : Str} {l : List Tk}, Sp r → Lx r l → Lx (t x ++ r) (f x ++ l)) : ∀ (xs : List α), (∀ x ∈ xs, P x) → ∀ {r : Str} {l : List Tk}, Sp r → Lx r l → Lx (Lib.join (xs.map t) [44, 32] ++ r) (comT f xs ++ l)
  | [], _, r, l, _, h => h
  | [x], hp, r, l, hr, h => by
    rw [List.map_cons, List.map_nil, Lib.join_one]
    exact hf x (hp x (by simp)) hr h
  | x :: y :: xs, hp, r, l, hr, h => by
    have ih := Lx.list hf (y :: xs) (fun z hz => hp z (by simp [hz])) hr h
    rw [List.map_cons, List.map_cons, join_two, comT, List.append_assoc, List.cons_append, List.cons_append, List.append_assoc, List.cons_append]
    rw [← List.map_cons]
    exact hf x (hp x (by simp)) (Sp.of (by decide) _) (Lx.loneC (by decide) (Lx.sp ih))
/-- Items are read one behind the other. -/
theorem ls_read {α : Type} {q : Int} {cl : Str} {item : List Tk → Rs α} {few : List α → Bool} {f : α → List Tk} {P : α → Prop} (h44 : ([44] : Str) ≠ cl) (hi : ∀ x, P x → ∀ l R, Qs l (f x) → item (l ++ R) = .inr (x, R) ∧ sg (hd q (l ++ R)) cl = false) : ∀ (xs : List α) (fu : Nat) (first : Bool) (acc : List α) (l R : List Tk) (c : Tk), (∀ x ∈ xs, P x) → few (acc ++ xs) = true → xs.length < fu → sg c cl = true →
    (first = true → Qs l (comT f xs)) → (first = false → (xs = [] ∧ l = []) ∨ (xs ≠ [] ∧ ∃ k l', l = k :: l' ∧ k.k = 5 ∧ k.t = [44] ∧ Qs l' (comT f xs))) → lsF q cl item few fu first acc (l ++ c :: R) = .inr (acc ++ xs, R)
  | [], 0, _, _, _, _, _, _, _, h, _, _, _ => by simp at h
  | _ :: _, 0, _, _, _, _, _, _, _, h, _, _, _ => by simp at h
  | [], fu + 1, first, acc, l, R, c, _, hfew, _, hc, h1, h2 => by
    have hl : l = [] := by
      cases first with
      | true => exact (h1 rfl).nil
      | false => rcases h2 rfl with ⟨_, h⟩ | ⟨h, _⟩
                 · exact h
                 · exact absurd rfl h
    subst hl
    rw [List.append_nil] at hfew ⊢
    rw [lsF, List.nil_append, if_pos (show sg (hd q (c :: R)) cl = true from hc), if_pos hfew]
    rfl
  | x :: xs, fu + 1, first, acc, l, R, c, hp, hfew, hlen, hc, h1, h2 => by
    -- what is left behind the comma, or at once
    have key : ∀ l1, Qs l1 (comT f (x :: xs)) → bnd (item (l1 ++ c :: R)) (fun y => lsF q cl item few fu false (acc ++ [y.1]) y.2) = .inr (acc ++ x :: xs, R) ∧ sg (hd q (l1 ++ c :: R)) cl = false := by
      intro l1 hq
      cases xs with
      | nil =>
        obtain ⟨i1, i2⟩ := hi x (hp x (by simp)) l1 (c :: R) hq
        refine ⟨?_, i2⟩
        rw [i1]
        show lsF q cl item few fu false (acc ++ [x]) (c :: R) = _
        have := ls_read h44 hi [] fu false (acc ++ [x]) [] R c (fun _ h => by simp at h) (by simpa using hfew) (by simpa using hlen) hc (fun e => by cases e) (fun _ => Or.inl ⟨rfl, rfl⟩)
        simpa using this
      | cons y ys =>
        rw [comT] at hq
        obtain ⟨a, b, rfl, qa, qb⟩ := hq.app
        obtain ⟨p, b', rfl, qb'⟩ := qb.cons
        obtain ⟨i1, i2⟩ := hi x (hp x (by simp)) a ((tSign [44]).put p :: b' ++ c :: R) qa
        rw [List.append_assoc]
        refine ⟨?_, i2⟩
        rw [i1]
        show lsF q cl item few fu false (acc ++ [x]) ((tSign [44]).put p :: b' ++ c :: R) = _
        have := ls_read h44 hi (y :: ys) fu false (acc ++ [x]) ((tSign [44]).put p :: b') R c (fun z hz => hp z (by simp [hz])) (by simpa using hfew) (by simpa using hlen) hc (fun e => by cases e) (fun _ => Or.inr ⟨by simp, _, b', rfl, rfl, rfl, qb'⟩)
        simpa using this
    cases first with
    | true =>
      obtain ⟨k1, k2⟩ := key l (h1 rfl)
      rw [lsF, k2, if_neg (by decide), if_neg (by simp), if_pos rfl]
      exact k1
    | false =>
      rcases h2 rfl with ⟨h, _⟩ | ⟨_, k, l', rfl, k5, kt, hq⟩
      · cases h
      · obtain ⟨k1, _⟩ := key l' hq
        have e1 : sg k cl = false := by unfold sg; rw [kt, beq_eq_false_iff_ne.2 h44, Bool.and_false]
        have e2 : sg k [44] = true := by unfold sg; rw [k5, kt]; decide
        rw [lsF, List.cons_append, show hd q (k :: (l' ++ c :: R)) = k from rfl, e1, if_neg (by decide), e2, if_neg (by simp), if_neg (by decide)]
        exact k1
end Go.Proofs.YtkppcgimhnocdaaGreatDoor
/- What is printed is read as the same, kind by kind: plain facts. -/
namespace Go.Proofs.YtkppcgimhnocdaaGreatDoor
open Go.RowKit

theorem Qs.len {a b : List Tk} (h : Qs a b) : a.length = b.length := by
  have := congrArg List.length h
  simpa using this
theorem comT_len {α : Type} {f : α → List Tk} (hf : ∀ x, 1 ≤ (f x).length) : ∀ xs : List α, xs.length ≤ (comT f xs).length
  | [] => by simp
  | [x] => by have := hf x; simpa [comT] using this
  | x :: y :: l => by
    have := comT_len hf (y :: l)
    have := hf x
    rw [comT]
    simp at *
    omega
abbrev nT (s : Str) : List Tk := [tIdent s]
theorem nm_item (q : Int) (x : Str) (_h : fName x = true) (l R : List Tk) (hq : Qs l (nT x)) : nmI q (l ++ R) = .inr (x, R) ∧ sg (hd q (l ++ R)) [41] = false := by
  obtain ⟨p, l', rfl, hl⟩ := hq.cons
  obtain rfl := hl.nil
  exact ⟨rfl, rfl⟩
theorem mt_item (q : Int) (x : Mt) (h : fMat x = true) (l R : List Tk) (hq : Qs l (tkM x)) : mtI q (l ++ R) = .inr (x, R) ∧ sg (hd q (l ++ R)) [125] = false := by
  obtain ⟨p, l1, rfl, h1⟩ := hq.cons
  obtain ⟨p2, l2, rfl, h2⟩ := h1.cons
  obtain ⟨p3, l3, rfl, h3⟩ := h2.cons
  obtain rfl := h3.nil
  obtain ⟨_, f2, _, _⟩ := mat_facts h
  obtain ⟨_, o2, _⟩ := op_facts f2
  have hk0 : x.kind ≠ 0 := by
    unfold fKind at f2
    simp at f2
    omega
  refine ⟨?_, rfl⟩
  show (if (1 : Int) ≠ 1 then _ else if (5 : Int) ≠ 5 ∨ mkd (mSg x.kind) = 0 then _ else if (4 : Int) ≠ 4 then _ else .inr ((⟨x.name, mkd (mSg x.kind), x.text⟩ : Mt), R)) = (.inr (x, R) : Rs Mt)
  rw [o2, if_neg (by decide), if_neg (by rintro (h | h); exact h rfl; exact hk0 h), if_neg (by decide)]
theorem nm_read {q : Int} {ns : List Str} (hf : fewN ns = true) (ha : ∀ n ∈ ns, fName n = true) {o c : Tk} (ho : sg o [40] = true) (hc : sg c [41] = true) {l R : List Tk} (hq : Qs l (comT nT ns)) : nmP q (o :: (l ++ c :: R)) = .inr (ns, R) := by
  unfold nmP
  rw [if_pos (show sg (hd q (o :: (l ++ c :: R))) [40] = true from ho)]
  have hl := comT_len (f := nT) (fun _ => Nat.le_refl _) ns
  have := ls_read (q := q) (cl := [41]) (item := nmI q) (few := fewN) (f := nT) (P := fun n => fName n = true) (by decide) (nm_item q) ns ((o :: (l ++ c :: R)).length + 1) true [] l R c ha (by simpa using hf) (by rw [← hq.len] at hl; simp; omega) hc (fun _ => hq) (fun e => by cases e)
  simpa using this
/-! ### Braces, windows -/
def bS (os : List Mt) : Str := [123] ++ pMs os ++ [125]
def bTk (os : List Mt) : List Tk := tSign [123] :: (comT tkM os ++ [tSign [125]])
theorem Lx.brace {os : List Mt} (ho : ∀ x ∈ os, fMat x = true) {r : Str} {l : List Tk} (h : Lx r l) : Lx (bS os ++ r) (bTk os ++ l) := by
  have h1 : Lx (125 :: r) (tSign [125] :: l) := Lx.loneC (by decide) h
  have h2 := Lx.list (f := tkM) (t := mTx) (P := fun x => fMat x = true) (fun x hx _ _ hr hl => Lx.mat hx hr hl) os ho (Sp.of (by decide) r) h1
  have h3 : Lx (123 :: (pMs os ++ 125 :: r)) (tSign [123] :: (comT tkM os ++ tSign [125] :: l)) := Lx.loneC (by decide) h2
  unfold bS bTk
  simpa using h3
theorem br_read {q : Int} {os a : List Mt} (ho : ∀ x ∈ os, fMat x = true) (hf : (a ++ os).length ≤ 8) {l R : List Tk} (hq : Qs l (bTk os)) : brP q a (l ++ R) = .inr (a ++ os, R) := by
  unfold bTk at hq
  obtain ⟨p, l1, rfl, h1⟩ := hq.cons
  obtain ⟨l2, l3, rfl, h2, h3⟩ := h1.app
  obtain ⟨p', l4, rfl, h4⟩ := h3.cons
  obtain rfl := h4.nil
  unfold brP
  rw [if_pos (show sg (hd q ((tSign [123]).put p :: (l2 ++ [(tSign [125]).put p']) ++ R)) [123] = true from rfl)]
  have hl := comT_len (f := tkM) (fun _ => by simp [tkM]) os
  have := ls_read (q := q) (cl := [125]) (item := mtI q) (few := fewM) (f := tkM) (P := fun n => fMat n = true) (by decide) (mt_item q) os (((tSign [123]).put p :: (l2 ++ [(tSign [125]).put p']) ++ R).length + 1) true a l2 R ((tSign [125]).put p') ho (by unfold fewM; simpa using hf) (by rw [← h2.len] at hl; simp; omega) rfl (fun _ => h2) (fun e => by cases e)
  simpa using this
def wS (r : Int) : Str := if 0 < r then [91] ++ dTx r ++ [93] else []
def wT (r : Int) : List Tk := if 0 < r then [tSign [91], tDur r, tSign [93]] else []
def Rg (r : Int) : Prop := r = 0 ∨ ∃ n : Nat, 1 ≤ n ∧ n ≤ 100 ∧ r = n
theorem Lx.win {r : Int} (hr : Rg r) {s : Str} {l : List Tk} (h : Lx s l) : Lx (wS r ++ s) (wT r ++ l) := by
  rcases hr with rfl | ⟨n, h1, h2, rfl⟩
  · exact h
  · unfold wS wT
    rw [if_pos (by omega), if_pos (by omega)]
    have g1 : Lx (93 :: s) (tSign [93] :: l) := Lx.loneC (by decide) h
    have g2 : Lx (dTx n ++ 93 :: s) (tDur n :: tSign [93] :: l) := Lx.one (x := tDur n) (Or.inr (Or.inr (Or.inl ⟨n, h1, h2, rfl⟩))) (Sp.of (by decide) s) g1
    have g3 : Lx (91 :: (dTx n ++ 93 :: s)) (tSign [91] :: tDur n :: tSign [93] :: l) := Lx.loneC (by decide) g2
    simpa using g3
theorem Sp.win {r : Int} {s : Str} (h : Sp s) : Sp (wS r ++ s) := by
  unfold wS
  split
  · exact Sp.of (by decide) _
  · exact h
/-- No name, no bracket or brace that goes on. -/
def StQ (q : Int) (R : List Tk) : Prop := (hd q R).k ≠ 1 ∧ sg (hd q R) [40] = false ∧ sg (hd q R) [123] = false ∧ sg (hd q R) [91] = false
theorem wn_read {q r : Int} (hr : Rg r) {l R : List Tk} (hq : Qs l (wT r)) (hR : StQ q R) : wnP q (l ++ R) = .inr (r, R) ∧ (hd q (l ++ R)).k ≠ 1 ∧ sg (hd q (l ++ R)) [40] = false ∧ sg (hd q (l ++ R)) [123] = false := by
  rcases hr with rfl | ⟨n, h1, h2, rfl⟩
  · have hq : Qs l [] := hq
    obtain rfl := hq.nil
    rw [List.nil_append]
    refine ⟨?_, hR.1, hR.2.1, hR.2.2.1⟩
    unfold wnP
    rw [if_pos hR.2.2.2]
  · unfold wT at hq
    rw [if_pos (by omega)] at hq
    obtain ⟨p, l1, rfl, h1⟩ := hq.cons
    obtain ⟨p2, l2, rfl, h2⟩ := h1.cons
    obtain ⟨p3, l3, rfl, h3⟩ := h2.cons
    obtain rfl := h3.nil
    exact ⟨rfl, (by show (5 : Int) ≠ 1; decide), rfl, rfl⟩
/-! ### An expression and its text -/
def Rt (e : Ex) : Prop := ∃ ts, (∀ r l, Sp r → Lx r l → Lx (pr9 e ++ r) (ts ++ l)) ∧ (∀ q d l R, Qs l ts → StQ q R → (∃ e', unD q d (l ++ R) = .inr (e', R) ∧ Eqx e' e) ∨ ∃ p, unD q d (l ++ R) = .inl (p, 72)) ∧ ∀ q l R, Qs l ts → StQ q R → hasMod q (l ++ R) = false
theorem rt_num (p v : Int) (h0 : 0 ≤ v) (h1 : v ≤ 9223372036854775807) : Rt (eNum p false v) := by
  refine ⟨[tNum v], fun r l hr hl => ?_, fun q d l R hq _ => ?_, fun q l R hq _ => ?_⟩
  · have e : pr9 (eNum p false v) = prT (tNum v) := by unfold eNum; rw [pr9_mk]; rfl
    rw [e]
    exact Lx.one (x := tNum v) (Or.inr (Or.inl ⟨v, h0, h1, rfl⟩)) hr hl
  · obtain ⟨p', l', rfl, hl⟩ := hq.cons
    obtain rfl := hl.nil
    refine Or.inl ⟨eNum p' false v, ?_, eqx_num _ _ _ _⟩
    rw [unD_eq]
    rfl
  · obtain ⟨p', l', rfl, hl⟩ := hq.cons
    rfl
theorem un_brk {q : Int} {d : Nat} {o : Tk} (h5 : o.k = 5) (ht : o.t = [40]) (l : List Tk) : unD q d (o :: l) = brkP q (dnC q d) (o :: l) := by
  have e1 : sg o [45] = false := by unfold sg; rw [h5, ht]; decide
  have e2 : sg o [40] = true := by unfold sg; rw [h5, ht]; decide
  rw [unD_eq]
  unfold unP
  rw [if_pos (show sg (hd q (o :: l)) [45] = false from e1)]
  unfold prmP
  rw [if_neg (show ¬ (hd q (o :: l)).k = 2 by show ¬ o.k = 2; rw [h5]; decide), if_neg (show ¬ (hd q (o :: l)).k = 1 by show ¬ o.k = 1; rw [h5]; decide), if_pos (show sg (hd q (o :: l)) [40] = true from e2)]
/-- What stands in brackets. -/
theorem brk_rt {q : Int} {d : Nat} {e : Ex} {l R : List Tk} {o c : Tk} (h5 : o.k = 5) (ht : o.t = [40]) (c5 : c.k = 5) (ct : c.t = [41]) (hk : ∀ d, (∃ e', unD q d (l ++ c :: R) = .inr (e', c :: R) ∧ Eqx e' e) ∨ ∃ p, unD q d (l ++ c :: R) = .inl (p, 72)) : (∃ e', brkP q (dnC q d) (o :: (l ++ c :: R)) = .inr (e', R) ∧ Eqx e' e) ∨ ∃ p, brkP q (dnC q d) (o :: (l ++ c :: R)) = .inl (p, 72) := by
  rw [brk_open h5 ht]
  have ec : sg c [41] = true := by unfold sg; rw [c5, ct]; decide
  cases d with
  | zero => exact Or.inr ⟨_, rfl⟩
  | succ d =>
    rcases hk d with ⟨e', h1, h2⟩ | ⟨p, h1⟩
    · refine Or.inl ⟨e', ?_, h2⟩
      show bnd (cmpP q (unD q d) (l ++ c :: R)) _ = _
      rw [cmp_stop h1 (Or.inr ct)]
      show (if sg (hd q (c :: R)) [41] = true then _ else _) = _
      rw [if_pos (show sg (hd q (c :: R)) [41] = true from ec)]
      rfl
    · refine Or.inr ⟨p, ?_⟩
      show bnd (cmpP q (unD q d) (l ++ c :: R)) _ = _
      rw [cmp_bad h1]
      rfl
theorem stq_close {q : Int} {c : Tk} (c5 : c.k = 5) (ct : c.t = [41]) (R : List Tk) : StQ q (c :: R) := by
  have e : ∀ s, ([41] : Str) ≠ s → sg c s = false := fun s hs => sgc ct hs
  exact ⟨(by show c.k ≠ 1; rw [c5]; decide), e _ (by decide), e _ (by decide), e _ (by decide)⟩
theorem un_name {q : Int} {d : Nat} {s : Str} {p : Int} (l : List Tk) : unD q d ((tIdent s).put p :: l) = namP q (dnC q d) ((tIdent s).put p :: l) := by
  rw [unD_eq]
  rfl
theorem rt_call (p : Int) (s : Str) {a : Ex} (hs : fName s = true) (h1 : isAggB s = false) (h2 : isModB s = false) (ha : Rt a) : Rt (eCall p s a) := by
  obtain ⟨ts, a1, a2, a3⟩ := ha
  refine ⟨tIdent s :: tSign [40] :: (ts ++ [tSign [41]]), fun r l hr hl => ?_, fun q d l R hq _ => ?_, fun q l R hq _ => ?_⟩
  · have e : pr9 (eCall p s a) = s ++ [40] ++ pr9 a ++ [41] := by unfold eCall; rw [pr9_mk, pr9L, pr9L]; rfl
    have g1 : Lx (41 :: r) (tSign [41] :: l) := Lx.loneC (by decide) hl
    have g2 := a1 _ _ (Sp.of (by decide) r) g1
    have g3 : Lx (40 :: (pr9 a ++ 41 :: r)) (tSign [40] :: (ts ++ tSign [41] :: l)) := Lx.loneC (by decide) g2
    have g4 := Lx.ident hs (Sp.of (by decide) _) g3
    rw [e]
    simpa using g4
  · obtain ⟨p1, l1, rfl, q1⟩ := hq.cons
    obtain ⟨p2, l2, rfl, q2⟩ := q1.cons
    obtain ⟨l3, l4, rfl, q3, q4⟩ := q2.app
    obtain ⟨p3, l5, rfl, q5⟩ := q4.cons
    obtain rfl := q5.nil
    have e : (tIdent s).put p1 :: (tSign [40]).put p2 :: (l3 ++ [(tSign [41]).put p3]) ++ R = (tIdent s).put p1 :: (tSign [40]).put p2 :: (l3 ++ (tSign [41]).put p3 :: R) := by simp
    have en : ∀ c : List Tk → Rs Ex, namP q c ((tIdent s).put p1 :: (tSign [40]).put p2 :: (l3 ++ (tSign [41]).put p3 :: R)) = bnd (brkP q c ((tSign [40]).put p2 :: (l3 ++ (tSign [41]).put p3 :: R))) fun x => .inr (eCall p1 s x.1, x.2) := by
      intro c
      unfold namP
      rw [show (hd q ((tIdent s).put p1 :: (tSign [40]).put p2 :: (l3 ++ (tSign [41]).put p3 :: R))).t = s from rfl, h1, h2]
      rfl
    rw [e, un_name, en]
    rcases brk_rt (q := q) (d := d) (e := a) (l := l3) (R := R) (o := (tSign [40]).put p2) (c := (tSign [41]).put p3) rfl rfl rfl rfl (fun d => a2 q d l3 _ q3 (stq_close rfl rfl R)) with ⟨e', r1, r2⟩ | ⟨pp, r1⟩
    · exact Or.inl ⟨eCall p1 s e', by rw [r1]; rfl, eqx_call _ _ _ r2⟩
    · exact Or.inr ⟨pp, by rw [r1]; rfl⟩
  · obtain ⟨p1, l1, rfl, q1⟩ := hq.cons
    unfold hasMod
    rw [show (hd q ((tIdent s).put p1 :: l1 ++ R)).t = s from rfl, h2]
    rfl
theorem rt_neg (p : Int) {a : Ex} (ha : Rt a) : Rt (eNeg p a) := by
  obtain ⟨ts, a1, a2, a3⟩ := ha
  refine ⟨tSign [45] :: ts, fun r l hr hl => ?_, fun q d l R hq hR => ?_, fun q l R hq _ => ?_⟩
  · have e : pr9 (eNeg p a) = [45] ++ pr9 a := by unfold eNeg; rw [pr9_mk, pr9L, pr9L]; rfl
    have g := Lx.loneC (c := 45) (by decide) (a1 r l hr hl)
    rw [e]
    simpa using g
  · obtain ⟨p1, l1, rfl, q1⟩ := hq.cons
    have e : unD q d ((tSign [45]).put p1 :: l1 ++ R) = bnd (dnN q d (l1 ++ R)) fun x => .inr (eNeg p1 x.1, x.2) := by
      rw [unD_eq]
      rfl
    rw [e]
    cases d with
    | zero => exact Or.inr ⟨_, rfl⟩
    | succ d =>
      show (∃ e', bnd (unD q d (l1 ++ R)) _ = _ ∧ _) ∨ ∃ p, bnd (unD q d (l1 ++ R)) _ = _
      rcases a2 q d l1 R q1 hR with ⟨e', r1, r2⟩ | ⟨pp, r1⟩
      · exact Or.inl ⟨eNeg p1 e', by rw [r1]; rfl, eqx_neg _ _ r2⟩
      · exact Or.inr ⟨pp, by rw [r1]; rfl⟩
  · obtain ⟨p1, l1, rfl, q1⟩ := hq.cons
    rfl
/-! ### Selectors -/
theorem met_is {x : Mt} (h : isMet x = true) : x = ⟨nmL, 1, x.text⟩ ∧ fName x.text = true := by
  unfold isMet at h
  simp only [Bool.and_eq_true, beq_iff_eq] at h
  refine ⟨?_, h.2⟩
  cases x
  simp at h ⊢
  exact ⟨h.1.1, h.1.2⟩
theorem sel_name {q : Int} {d : Nat} {t : Str} {p1 r : Int} {os : List Mt} {L R : List Tk} (hb : brP q [⟨nmL, 1, t⟩] L = .inr (⟨nmL, 1, t⟩ :: os, R)) {R' : List Tk} (hw : wnP q R = .inr (r, R')) (hL : (hd q L).k ≠ 1 ∧ sg (hd q L) [40] = false) : unD q d ((tIdent t).put p1 :: L) = .inr (eSel p1 (⟨nmL, 1, t⟩ :: os) r, R') ∧ hasMod q ((tIdent t).put p1 :: L) = false := by
  have k1 : ((hd q L).k == 1) = false := by rw [beq_eq_false_iff_ne]; exact hL.1
  constructor
  · rw [un_name]
    unfold namP
    rw [List.tail_cons, hL.2, k1, Bool.false_and, Bool.or_false, Bool.and_false, Bool.and_false, if_neg (by decide), if_neg (by decide), if_neg (by decide)]
    unfold selP
    show bnd (brP q [⟨nmL, 1, t⟩] L) _ = _
    rw [hb]
    show bnd (wnP q R) _ = _
    rw [hw]
    rfl
  · unfold hasMod
    rw [List.tail_cons, hL.2, Bool.and_false]
theorem pr_sel (p : Int) (m : List Mt) (r : Int) : pr9 (eSel p m r) = selT (ptN m).1 (ptN m).2 ++ wS r := by
  have e : pr9 (eSel p m r) = selS m r := by unfold eSel; rw [pr9_mk]; rfl
  rw [e]
  unfold selS wS
  split
  · rfl
  · simp
theorem rt_sel (p : Int) (m : List Mt) (r : Int) (hm : ∀ x ∈ m, fMat x = true) (hl : m.length ≤ 8) (hr : Rg r) : Rt (eSel p m r) := by
  by_cases hA : ∃ x os, m = x :: os ∧ isMet x = true
  · obtain ⟨x, os, rfl, hx⟩ := hA
    obtain ⟨ex, ht⟩ := met_is hx
    have hne := name_ne ht
    have hos : ∀ y ∈ os, fMat y = true := fun y hy => hm y (by simp [hy])
    have ept : ptN (x :: os) = (x.text, os) := by show (if isMet x then (x.text, os) else ([], x :: os)) = _; rw [hx]; rfl
    have ep := pr_sel p (x :: os) r
    rw [ept] at ep
    have em : x :: os = ⟨nmL, 1, x.text⟩ :: os := by rw [← ex]
    generalize x.text = t at *
    rw [em]
    rw [em] at ep
    by_cases ho : os = []
    · subst ho
      have et : selT t [] = t := by unfold selT; rw [if_neg (by simp [hne])]
      rw [et] at ep
      refine ⟨tIdent t :: wT r, fun s l hs h => ?_, fun q d l R hq hR => ?_, fun q l R hq hR => ?_⟩
      · rw [ep, List.append_assoc]
        exact Lx.ident ht (Sp.win hs) (Lx.win hr h)
      · obtain ⟨p1, l1, rfl, q1⟩ := hq.cons
        obtain ⟨w1, w2, w3, w4⟩ := wn_read hr q1 hR
        have hb : brP q [⟨nmL, 1, t⟩] (l1 ++ R) = .inr ([⟨nmL, 1, t⟩], l1 ++ R) := by unfold brP; rw [if_neg (by rw [w4]; decide)]
        exact Or.inl ⟨_, (sel_name (d := d) (p1 := p1) hb w1 ⟨w2, w3⟩).1, eqx_sel _ _ _ _⟩
      · obtain ⟨p1, l1, rfl, q1⟩ := hq.cons
        obtain ⟨w1, w2, w3, w4⟩ := wn_read hr q1 hR
        have hb : brP q [⟨nmL, 1, t⟩] (l1 ++ R) = .inr ([⟨nmL, 1, t⟩], l1 ++ R) := by unfold brP; rw [if_neg (by rw [w4]; decide)]
        exact (sel_name (d := 0) (p1 := p1) hb w1 ⟨w2, w3⟩).2
    · have h0 : 0 < os.length := List.length_pos_iff.2 ho
      have et : selT t os = t ++ bS os := by unfold selT; rw [if_pos (Or.inr h0)]; rfl
      rw [et] at ep
      have hsl : ∀ (q : Int) (d : Nat) (l R : List Tk), Qs l (bTk os ++ wT r) → StQ q R → ∀ p1, unD q d ((tIdent t).put p1 :: (l ++ R)) = .inr (eSel p1 (⟨nmL, 1, t⟩ :: os) r, R) ∧ hasMod q ((tIdent t).put p1 :: (l ++ R)) = false := by
        intro q d l R hq hR p1
        obtain ⟨l1, l2, rfl, q1, q2⟩ := hq.app
        obtain ⟨w1, _, _, _⟩ := wn_read hr q2 hR
        have hb := br_read (q := q) (os := os) (a := [⟨nmL, 1, t⟩]) (R := l2 ++ R) hos (by simpa using hl) q1
        rw [List.append_assoc]
        obtain ⟨pp, l1', rfl, _⟩ := q1.cons
        exact sel_name hb w1 ⟨(by show (5 : Int) ≠ 1; decide), rfl⟩
      refine ⟨tIdent t :: (bTk os ++ wT r), fun s l hs h => ?_, fun q d l R hq hR => ?_, fun q l R hq hR => ?_⟩
      · have hsp : Sp (bS os ++ (wS r ++ s)) := by
          have e : bS os ++ (wS r ++ s) = 123 :: (pMs os ++ [125] ++ (wS r ++ s)) := by unfold bS; simp
          rw [e]
          exact Sp.of (by decide) _
        have g := Lx.ident ht hsp (Lx.brace hos (Lx.win hr h))
        rw [ep]
        simpa using g
      · obtain ⟨p1, l1, rfl, q1⟩ := hq.cons
        exact Or.inl ⟨_, (hsl q d l1 R q1 hR p1).1, eqx_sel _ _ _ _⟩
      · obtain ⟨p1, l1, rfl, q1⟩ := hq.cons
        exact (hsl q 0 l1 R q1 hR p1).2
  · have ept : ptN m = ([], m) := by
      cases m with
      | nil => rfl
      | cons x os =>
        show (if isMet x then (x.text, os) else ([], x :: os)) = _
        cases hx : isMet x with
        | false => rfl
        | true => exact absurd ⟨x, os, rfl, hx⟩ hA
    have ep := pr_sel p m r
    rw [ept] at ep
    have et : selT [] m = bS m := by unfold selT; rw [if_pos (Or.inl rfl)]; rfl
    rw [et] at ep
    refine ⟨bTk m ++ wT r, fun s l hs h => ?_, fun q d l R hq hR => ?_, fun q l R hq hR => ?_⟩
    · rw [ep, List.append_assoc, List.append_assoc]
      exact Lx.brace hm (Lx.win hr h)
    · obtain ⟨l1, l2, rfl, q1, q2⟩ := hq.app
      obtain ⟨w1, _, _, _⟩ := wn_read hr q2 hR
      have hb := br_read (q := q) (os := m) (a := []) (R := l2 ++ R) hm (by simpa using hl) q1
      rw [List.append_assoc]
      obtain ⟨pp, l1', rfl, _⟩ := q1.cons
      refine Or.inl ⟨eSel pp m r, ?_, eqx_sel _ _ _ _⟩
      rw [unD_eq]
      show selP q ((tSign [123]).put pp :: l1' ++ (l2 ++ R)) = _
      unfold selP
      show bnd (brP q [] ((tSign [123]).put pp :: l1' ++ (l2 ++ R))) _ = _
      rw [hb]
      show bnd (wnP q (l2 ++ R)) _ = _
      rw [w1]
      rfl
    · obtain ⟨l1, l2, rfl, q1, q2⟩ := hq.app
      obtain ⟨pp, l1', rfl, _⟩ := q1.cons
      rfl
end Go.Proofs.YtkppcgimhnocdaaGreatDoor
/- Aggregations, operators: what is printed is read as the same: plain facts. -/
namespace Go.Proofs.YtkppcgimhnocdaaGreatDoor
open Go.RowKit

def GN (b c : Bool) (ns : List Str) : Prop := (b = false ∧ c = false ∧ ns = []) ∨ (b ≠ c ∧ fewN ns = true ∧ ∀ n ∈ ns, fName n = true)
def gTx (w : Str) (ns : List Str) : Str := w ++ [32, 40] ++ Lib.join ns [44, 32] ++ [41, 32]
def gTk (w : Str) (ns : List Str) : List Tk := tIdent w :: tSign [40] :: (comT nT ns ++ [tSign [41]])
theorem Lx.group {w : Str} {ns : List Str} (hw : fName w = true) (ha : ∀ n ∈ ns, fName n = true) {r : Str} {l : List Tk} (h : Lx r l) : Lx (gTx w ns ++ r) (gTk w ns ++ l) := by
  have g1 : Lx (41 :: 32 :: r) (tSign [41] :: l) := Lx.loneC (by decide) (Lx.sp h)
  have g2 := Lx.list (f := nT) (t := fun x => x) (P := fun n => fName n = true) (fun x hx _ _ hr hl => Lx.ident hx hr hl) ns ha (Sp.of (by decide) (32 :: r)) g1
  rw [show ns.map (fun x => x) = ns from List.map_id' ns] at g2
  have g3 : Lx (40 :: (Lib.join ns [44, 32] ++ 41 :: 32 :: r)) (tSign [40] :: (comT nT ns ++ tSign [41] :: l)) := Lx.loneC (by decide) g2
  have g4 := Lx.ident hw (Sp.of (c := 32) (by decide) _) (Lx.sp g3)
  unfold gTx gTk
  simpa using g4
theorem g_read {q : Int} {w : Str} {ns : List Str} (hf : fewN ns = true) (ha : ∀ n ∈ ns, fName n = true) {l R : List Tk} (hq : Qs l (gTk w ns)) : ∃ p l', l ++ R = (tIdent w).put p :: l' ∧ nmP q l' = .inr (ns, R) ∧ sg (hd q l') [40] = true := by
  unfold gTk at hq
  obtain ⟨p1, l1, rfl, q1⟩ := hq.cons
  obtain ⟨p2, l2, rfl, q2⟩ := q1.cons
  obtain ⟨l3, l4, rfl, q3, q4⟩ := q2.app
  obtain ⟨p3, l5, rfl, q5⟩ := q4.cons
  obtain rfl := q5.nil
  refine ⟨p1, (tSign [40]).put p2 :: (l3 ++ (tSign [41]).put p3 :: R), by simp, nm_read hf ha rfl rfl q3, rfl⟩
theorem agg_facts {s : Str} (h : isAggB s = true) : fName s = true ∧ isModB s = false := by
  unfold isAggB at h
  simp only [Bool.or_eq_true, beq_iff_eq] at h
  rcases h with (((rfl | rfl) | rfl) | rfl) | rfl <;> exact ⟨by decide, by decide⟩
theorem pr_agg (p : Int) (s : Str) (b1 b2 : Bool) (ns : List Str) (a : Ex) : pr9 (eAgg p s b1 b2 ns a) = s ++ [32] ++ gpS b1 b2 false false ns ++ [40] ++ pr9 a ++ [41] := by
  unfold eAgg
  rw [pr9_mk, pr9L, pr9L]
  rfl
theorem pr_bin (p : Int) (s : Str) (b3 b4 : Bool) (ns : List Str) (a b : Ex) : pr9 (eBin p s b3 b4 ns a b) = [40] ++ pr9 a ++ [32] ++ s ++ [32] ++ gpS false false b3 b4 ns ++ pr9 b ++ [41] := by
  unfold eBin
  rw [pr9_mk, pr9L, pr9L, pr9L]
  rfl
theorem rt_agg (p : Int) (s : Str) (b1 b2 : Bool) (ns : List Str) {a : Ex} (hs : isAggB s = true) (hg : GN b1 b2 ns) (ha : Rt a) : Rt (eAgg p s b1 b2 ns a) := by
  obtain ⟨ts, a1, a2, a3⟩ := ha
  obtain ⟨f1, f2⟩ := agg_facts hs
  have hmod : ∀ (q : Int) (p1 : Int) (l : List Tk), hasMod q ((tIdent s).put p1 :: l) = false := by
    intro q p1 l
    unfold hasMod
    rw [show (hd q ((tIdent s).put p1 :: l)).t = s from rfl, f2]
    rfl
  have hlex : ∀ r l, Sp r → Lx r l → Lx (40 :: (pr9 a ++ 41 :: r)) (tSign [40] :: (ts ++ tSign [41] :: l)) := fun r l _ h => Lx.loneC (by decide) (a1 _ _ (Sp.of (by decide) r) (Lx.loneC (by decide) h))
  rcases hg with ⟨rfl, rfl, rfl⟩ | ⟨hb, hf, hn⟩
  · refine ⟨tIdent s :: tSign [40] :: (ts ++ [tSign [41]]), fun r l hr hl => ?_, fun q d l R hq _ => ?_, fun q l R hq _ => ?_⟩
    · have g := Lx.ident f1 (Sp.of (c := 32) (by decide) _) (Lx.sp (hlex r l hr hl))
      rw [pr_agg, show gpS false false false false [] = [] from rfl]
      simpa using g
    · obtain ⟨p1, l1, rfl, q1⟩ := hq.cons
      obtain ⟨p2, l2, rfl, q2⟩ := q1.cons
      obtain ⟨l3, l4, rfl, q3, q4⟩ := q2.app
      obtain ⟨p3, l5, rfl, q5⟩ := q4.cons
      obtain rfl := q5.nil
      have e : (tIdent s).put p1 :: (tSign [40]).put p2 :: (l3 ++ [(tSign [41]).put p3]) ++ R = (tIdent s).put p1 :: (tSign [40]).put p2 :: (l3 ++ (tSign [41]).put p3 :: R) := by simp
      have en : ∀ c : List Tk → Rs Ex, namP q c ((tIdent s).put p1 :: (tSign [40]).put p2 :: (l3 ++ (tSign [41]).put p3 :: R)) = bnd (brkP q c ((tSign [40]).put p2 :: (l3 ++ (tSign [41]).put p3 :: R))) fun x => .inr (eAgg p1 s false false [] x.1, x.2) := by
        intro c
        unfold namP
        rw [show (hd q ((tIdent s).put p1 :: (tSign [40]).put p2 :: (l3 ++ (tSign [41]).put p3 :: R))).t = s from rfl, hs]
        rfl
      rw [e, un_name, en]
      rcases brk_rt (q := q) (d := d) (e := a) (l := l3) (R := R) (o := (tSign [40]).put p2) (c := (tSign [41]).put p3) rfl rfl rfl rfl (fun d => a2 q d l3 _ q3 (stq_close rfl rfl R)) with ⟨e', r1, r2⟩ | ⟨pp, r1⟩
      · exact Or.inl ⟨eAgg p1 s false false [] e', by rw [r1]; rfl, eqx_agg _ _ _ _ _ _ r2⟩
      · exact Or.inr ⟨pp, by rw [r1]; rfl⟩
    · obtain ⟨p1, l1, rfl, q1⟩ := hq.cons
      exact hmod q p1 _
  · obtain ⟨w, hw, hw2, hw3, hw4, hw5⟩ : ∃ w, gpS b1 b2 false false ns = gTx w ns ∧ fName w = true ∧ isGrpB w = true ∧ (w == wBy) = b1 ∧ (w == wWo) = b2 := by
      cases b1 with
      | true =>
        obtain rfl : b2 = false := by cases b2 with
          | true => exact absurd rfl hb
          | false => rfl
        exact ⟨wBy, rfl, by decide, by decide, by decide, by decide⟩
      | false =>
        obtain rfl : b2 = true := by cases b2 with
          | false => exact absurd rfl hb
          | true => rfl
        exact ⟨wWo, rfl, by decide, by decide, by decide, by decide⟩
    refine ⟨tIdent s :: (gTk w ns ++ tSign [40] :: (ts ++ [tSign [41]])), fun r l hr hl => ?_, fun q d l R hq _ => ?_, fun q l R hq _ => ?_⟩
    · have g := Lx.ident f1 (Sp.of (c := 32) (by decide) _) (Lx.sp (Lx.group hw2 hn (hlex r l hr hl)))
      rw [pr_agg, hw]
      simpa using g
    · obtain ⟨p1, l1, rfl, q1⟩ := hq.cons
      obtain ⟨la, lb, rfl, qa, qb⟩ := q1.app
      obtain ⟨p2, l2, rfl, q2⟩ := qb.cons
      obtain ⟨l3, l4, rfl, q3, q4⟩ := q2.app
      obtain ⟨p3, l5, rfl, q5⟩ := q4.cons
      obtain rfl := q5.nil
      obtain ⟨pw, l', g1, g2, g3⟩ := g_read (q := q) (R := (tSign [40]).put p2 :: (l3 ++ (tSign [41]).put p3 :: R)) hf hn qa
      have e : (tIdent s).put p1 :: (la ++ (tSign [40]).put p2 :: (l3 ++ [(tSign [41]).put p3])) ++ R = (tIdent s).put p1 :: (tIdent w).put pw :: l' := by rw [← g1]; simp
      have en : ∀ c : List Tk → Rs Ex, namP q c ((tIdent s).put p1 :: (tIdent w).put pw :: l') = bnd (brkP q c ((tSign [40]).put p2 :: (l3 ++ (tSign [41]).put p3 :: R))) fun x => .inr (eAgg p1 s b1 b2 ns x.1, x.2) := by
        intro c
        unfold namP
        rw [show (hd q ((tIdent s).put p1 :: (tIdent w).put pw :: l')).t = s from rfl, hs, List.tail_cons, show (hd q ((tIdent w).put pw :: l')).t = w from rfl, hw3, if_pos (by rfl)]
        unfold aggP
        have eg : grpP q ((tIdent w).put pw :: l') = .inr (⟨b1, b2, ns⟩, (tSign [40]).put p2 :: (l3 ++ (tSign [41]).put p3 :: R)) := by
          unfold grpP
          rw [if_neg (by show ¬ (1 : Int) ≠ 1; decide), List.tail_cons, g2]
          show Sum.inr ((⟨w == wBy, w == wWo, ns⟩ : Md), _) = _
          rw [hw4, hw5]
        rw [List.tail_cons, eg]
        rfl
      rw [e, un_name, en]
      rcases brk_rt (q := q) (d := d) (e := a) (l := l3) (R := R) (o := (tSign [40]).put p2) (c := (tSign [41]).put p3) rfl rfl rfl rfl (fun d => a2 q d l3 _ q3 (stq_close rfl rfl R)) with ⟨e', r1, r2⟩ | ⟨pp, r1⟩
      · exact Or.inl ⟨eAgg p1 s b1 b2 ns e', by rw [r1]; rfl, eqx_agg _ _ _ _ _ _ r2⟩
      · exact Or.inr ⟨pp, by rw [r1]; rfl⟩
    · obtain ⟨p1, l1, rfl, q1⟩ := hq.cons
      exact hmod q p1 _
/-! ### Operators -/
theorem ch_pass {q lev : Int} {u : List Tk → Rs Ex} {l Y : List Tk} {op : Tk} {a : Ex} (h : u l = .inr (a, op :: Y)) (hl : lv op.t ≠ lev) : chP q lev u l = .inr (a, op :: Y) := by
  unfold chP
  rw [h]
  show chF q lev u ((op :: Y).length + 1) a (op :: Y) = _
  have ho : isOp q lev (op :: Y) = false := by
    unfold isOp
    rw [show (hd q (op :: Y)).t = op.t from rfl, beq_eq_false_iff_ne.2 hl, Bool.and_false]
  rw [chF, if_pos ho]
theorem ch_one {q lev : Int} (hlev : 1 ≤ lev) {u : List Tk → Rs Ex} {l Y Z W : List Tk} {op : Tk} {a b : Ex} {m : Md} (h : u l = .inr (a, op :: Y)) (h5 : op.k = 5) (hl : lv op.t = lev) (hm : modP q Y = .inr (m, Z)) (hb : u Z = .inr (b, W)) (hW : Stp q W) : chP q lev u l = .inr (eBin op.p op.t m.on m.ig m.ns a b, W) := by
  unfold chP
  rw [h]
  show chF q lev u ((op :: Y).length + 1) a (op :: Y) = _
  have ho : isOp q lev (op :: Y) = true := by
    unfold isOp
    rw [show (hd q (op :: Y)).t = op.t from rfl, show (hd q (op :: Y)).k = op.k from rfl, h5, hl, beq_self_eq_true, beq_self_eq_true]
    rfl
  rw [chF, ho, if_neg (by decide)]
  unfold joinP
  rw [List.tail_cons, hm]
  show bnd (bnd (u Z) _) _ = _
  rw [hb]
  show chF q lev u (op :: Y).length (eBin op.p op.t m.on m.ig m.ns a b) W = _
  rw [List.length_cons, chF, if_pos (hW.op hlev)]
theorem ch_oneb {q lev : Int} {u : List Tk → Rs Ex} {l Y Z : List Tk} {op : Tk} {a : Ex} {m : Md} {er : Er} (h : u l = .inr (a, op :: Y)) (h5 : op.k = 5) (hl : lv op.t = lev) (hm : modP q Y = .inr (m, Z)) (hb : u Z = .inl er) : chP q lev u l = .inl er := by
  unfold chP
  rw [h]
  show chF q lev u ((op :: Y).length + 1) a (op :: Y) = _
  have ho : isOp q lev (op :: Y) = true := by
    unfold isOp
    rw [show (hd q (op :: Y)).t = op.t from rfl, show (hd q (op :: Y)).k = op.k from rfl, h5, hl, beq_self_eq_true, beq_self_eq_true]
    rfl
  rw [chF, ho, if_neg (by decide)]
  unfold joinP
  rw [List.tail_cons, hm]
  show bnd (bnd (u Z) _) _ = _
  rw [hb]
  rfl
theorem lv_le3 (s : Str) : lv s ≤ 3 := by
  unfold lv
  split
  · omega
  · split
    · omega
    · split <;> omega
theorem lv_three {s : Str} (h : 1 ≤ lv s) : lv s = 1 ∨ lv s = 2 ∨ lv s = 3 := by
  have := lv_le3 s
  omega
theorem cmp_bin {q : Int} {u : List Tk → Rs Ex} {l Y Z W : List Tk} {op : Tk} {a b : Ex} {m : Md} (h : u l = .inr (a, op :: Y)) (h5 : op.k = 5) (hl : 1 ≤ lv op.t) (hm : modP q Y = .inr (m, Z)) (hb : u Z = .inr (b, W)) (hW : Stp q W) : cmpP q u l = .inr (eBin op.p op.t m.on m.ig m.ns a b, W) := by
  unfold cmpP
  rcases lv_three hl with e | e | e
  · exact ch_one (by decide) (ch_pass (ch_pass h (by omega)) (by omega)) h5 e hm (ch_stop (by decide) (ch_stop (by decide) hb hW) hW) hW
  · exact ch_stop (by decide) (ch_one (by decide) (ch_pass h (by omega)) h5 e hm (ch_stop (by decide) hb hW) hW) hW
  · exact ch_stop (by decide) (ch_stop (by decide) (ch_one (by decide) h h5 e hm hb hW) hW) hW
theorem cmp_binb {q : Int} {u : List Tk → Rs Ex} {l Y Z : List Tk} {op : Tk} {a : Ex} {m : Md} {er : Er} (h : u l = .inr (a, op :: Y)) (h5 : op.k = 5) (hl : 1 ≤ lv op.t) (hm : modP q Y = .inr (m, Z)) (hb : u Z = .inl er) : cmpP q u l = .inl er := by
  unfold cmpP
  rcases lv_three hl with e | e | e
  · exact ch_oneb (ch_pass (ch_pass h (by omega)) (by omega)) h5 e hm (ch_bad (ch_bad hb))
  · exact ch_bad (ch_oneb (ch_pass h (by omega)) h5 e hm (ch_bad hb))
  · exact ch_bad (ch_bad (ch_oneb h h5 e hm hb))
theorem stq_op {q : Int} {c : Tk} (c5 : c.k = 5) (hl : 1 ≤ lv c.t) (R : List Tk) : StQ q (c :: R) := by
  have e : ∀ s, lv s = 0 → sg c s = false := fun s hs => by
    unfold sg
    have : (c.t == s) = false := by
      rw [beq_eq_false_iff_ne]
      intro e
      rw [e] at hl
      omega
    rw [this, Bool.and_false]
  exact ⟨(by show c.k ≠ 1; rw [c5]; decide), e _ (by decide), e _ (by decide), e _ (by decide)⟩
theorem rt_bin (p : Int) (s : Str) (b3 b4 : Bool) (ns : List Str) {a b : Ex} (hs : isSg s = true) (hl : 1 ≤ lv s) (hg : GN b3 b4 ns) (ha : Rt a) (hb : Rt b) : Rt (eBin p s b3 b4 ns a b) := by
  obtain ⟨ta, a1, a2, a3⟩ := ha
  obtain ⟨tb, c1, c2, c3⟩ := hb
  obtain ⟨G, gs, hG, g1, g2⟩ : ∃ (G : List Tk) (gs : Str), gpS false false b3 b4 ns = gs ∧ (∀ r l, Lx r l → Lx (gs ++ r) (G ++ l)) ∧ ∀ q l R, Qs l G → hasMod q R = false → modP q (l ++ R) = .inr (⟨b3, b4, ns⟩, R) := by
    rcases hg with ⟨rfl, rfl, rfl⟩ | ⟨hbb, hf, hn⟩
    · refine ⟨[], [], rfl, fun r l h => h, fun q l R hq hm => ?_⟩
      obtain rfl := hq.nil
      unfold modP
      rw [List.nil_append, if_pos hm]
    · obtain ⟨w, hw, hw2, hw3, hw4, hw5⟩ : ∃ w, gpS false false b3 b4 ns = gTx w ns ∧ fName w = true ∧ isModB w = true ∧ (w == wOn) = b3 ∧ (w == wIgn) = b4 := by
        cases b3 with
        | true =>
          obtain rfl : b4 = false := by cases b4 with
            | true => exact absurd rfl hbb
            | false => rfl
          exact ⟨wOn, rfl, by decide, by decide, by decide, by decide⟩
        | false =>
          obtain rfl : b4 = true := by cases b4 with
            | false => exact absurd rfl hbb
            | true => rfl
          exact ⟨wIgn, rfl, by decide, by decide, by decide, by decide⟩
      refine ⟨gTk w ns, gTx w ns, hw, fun r l h => Lx.group hw2 hn h, fun q l R hq _ => ?_⟩
      obtain ⟨pw, l', g1, g2, g3⟩ := g_read (q := q) (R := R) hf hn hq
      rw [g1]
      have hm : hasMod q ((tIdent w).put pw :: l') = true := by
        unfold hasMod
        rw [List.tail_cons, show (hd q ((tIdent w).put pw :: l')).t = w from rfl, hw3, g3]
        rfl
      unfold modP
      rw [hm, if_neg (by decide), List.tail_cons, g2]
      show Sum.inr ((⟨w == wOn, w == wIgn, ns⟩ : Md), R) = _
      rw [hw4, hw5]
  refine ⟨tSign [40] :: (ta ++ tSign s :: (G ++ (tb ++ [tSign [41]]))), fun r l hr h => ?_, fun q d l R hq _ => ?_, fun q l R hq _ => ?_⟩
  · have k1 := c1 _ _ (Sp.of (c := 41) (by decide) r) (Lx.loneC (by decide) h)
    have k2 := Lx.sign hs (Sp.of (c := 32) (by decide) _) (Lx.sp (g1 _ _ k1))
    have k3 := a1 _ _ (Sp.of (c := 32) (by decide) _) (Lx.sp k2)
    have k4 := Lx.loneC (c := 40) (by decide) k3
    rw [pr_bin, hG]
    simpa using k4
  · obtain ⟨p1, l1, rfl, q1⟩ := hq.cons
    obtain ⟨la, l2, rfl, qa, q2⟩ := q1.app
    obtain ⟨po, l3, rfl, q3⟩ := q2.cons
    obtain ⟨lg, l4, rfl, qg, q4⟩ := q3.app
    obtain ⟨lb, l5, rfl, qb, q5⟩ := q4.app
    obtain ⟨pc, l6, rfl, q6⟩ := q5.cons
    obtain rfl := q6.nil
    have e : (tSign [40]).put p1 :: (la ++ (tSign s).put po :: (lg ++ (lb ++ [(tSign [41]).put pc]))) ++ R = (tSign [40]).put p1 :: (la ++ (tSign s).put po :: (lg ++ (lb ++ (tSign [41]).put pc :: R))) := by simp
    rw [e, un_brk rfl rfl, brk_open rfl rfl]
    cases d with
    | zero => exact Or.inr ⟨_, rfl⟩
    | succ d =>
      have hW : Stp q ((tSign [41]).put pc :: R) := Or.inr rfl
      have hSc : StQ q ((tSign [41]).put pc :: R) := stq_close rfl rfl R
      have hm := g2 q lg (lb ++ (tSign [41]).put pc :: R) qg (c3 q lb _ qb hSc)
      show (∃ e', bnd (cmpP q (unD q d) (la ++ (tSign s).put po :: (lg ++ (lb ++ (tSign [41]).put pc :: R)))) _ = _ ∧ _) ∨ ∃ p, bnd (cmpP q (unD q d) (la ++ (tSign s).put po :: (lg ++ (lb ++ (tSign [41]).put pc :: R)))) _ = _
      rcases a2 q d la ((tSign s).put po :: (lg ++ (lb ++ (tSign [41]).put pc :: R))) qa (stq_op rfl hl _) with ⟨a', r1, r2⟩ | ⟨pp, r1⟩
      · rcases c2 q d lb ((tSign [41]).put pc :: R) qb hSc with ⟨b', s1, s2⟩ | ⟨pp, s1⟩
        · refine Or.inl ⟨eBin po s b3 b4 ns a' b', ?_, eqx_bin _ _ _ _ _ _ r2 s2⟩
          rw [cmp_bin (op := (tSign s).put po) r1 rfl hl hm s1 hW]
          rfl
        · refine Or.inr ⟨pp, ?_⟩
          rw [cmp_binb (op := (tSign s).put po) r1 rfl hl hm s1]
          rfl
      · refine Or.inr ⟨pp, ?_⟩
        rw [cmp_bad r1]
        rfl
  · obtain ⟨p1, l1, rfl, q1⟩ := hq.cons
    rfl
end Go.Proofs.YtkppcgimhnocdaaGreatDoor
/- What was read, printed, is read as the same: plain facts. -/
namespace Go.Proofs.YtkppcgimhnocdaaGreatDoor
open Go.RowKit

/-- A sign as a short text has it, or its end. -/
def TB (t : Tk) : Prop := t.k = 0 ∨ ∃ y p, Okt y ∧ t = y.put p ∧ (prT y).length ≤ 300
theorem tb_ident {t : Tk} (h : TB t) (hk : t.k = 1) : fName t.t = true := by
  rcases h with h | ⟨y, p, ho, rfl, _⟩
  · rw [h] at hk; cases hk
  · rcases ho with ⟨s, hs, rfl⟩ | ⟨v, _, _, rfl⟩ | ⟨n, _, _, rfl⟩ | ⟨s, _, _, rfl⟩ | ⟨s, _, rfl⟩
    · exact hs
    all_goals cases hk
theorem tb_num {t : Tk} (h : TB t) (hk : t.k = 2) : t.o = false ∧ 0 ≤ t.n ∧ t.n ≤ 9223372036854775807 ∧ (prT (tNum t.n)).length ≤ 300 := by
  rcases h with h | ⟨y, p, ho, rfl, hl⟩
  · rw [h] at hk; cases hk
  · rcases ho with ⟨s, hs, rfl⟩ | ⟨v, h0, h1, rfl⟩ | ⟨n, _, _, rfl⟩ | ⟨s, _, _, rfl⟩ | ⟨s, _, rfl⟩
    · cases hk
    · exact ⟨rfl, h0, h1, hl⟩
    all_goals cases hk
theorem tb_dur {t : Tk} (h : TB t) (hk : t.k = 3) : (∃ n : Nat, 1 ≤ n ∧ n ≤ 100 ∧ t.d = n) ∧ (prT (tDur t.d)).length ≤ 300 := by
  rcases h with h | ⟨y, p, ho, rfl, hl⟩
  · rw [h] at hk; cases hk
  · rcases ho with ⟨s, hs, rfl⟩ | ⟨v, h0, h1, rfl⟩ | ⟨n, n0, n1, rfl⟩ | ⟨s, _, _, rfl⟩ | ⟨s, _, rfl⟩
    · cases hk
    · cases hk
    · exact ⟨⟨n, n0, n1, rfl⟩, hl⟩
    all_goals cases hk
theorem tb_text {t : Tk} (h : TB t) (hk : t.k = 4) : t.t.length ≤ 30 ∧ t.t.contains 10 = false := by
  rcases h with h | ⟨y, p, ho, rfl, _⟩
  · rw [h] at hk; cases hk
  · rcases ho with ⟨s, hs, rfl⟩ | ⟨v, h0, h1, rfl⟩ | ⟨n, n0, n1, rfl⟩ | ⟨s, h1, h2, rfl⟩ | ⟨s, _, rfl⟩
    · cases hk
    · cases hk
    · cases hk
    · exact ⟨h1, h2⟩
    · cases hk
theorem tb_sign {t : Tk} (h : TB t) (hk : t.k = 5) : isSg t.t = true := by
  rcases h with h | ⟨y, p, ho, rfl, _⟩
  · rw [h] at hk; cases hk
  · rcases ho with ⟨s, hs, rfl⟩ | ⟨v, h0, h1, rfl⟩ | ⟨n, n0, n1, rfl⟩ | ⟨s, h1, h2, rfl⟩ | ⟨s, h, rfl⟩
    · cases hk
    · cases hk
    · cases hk
    · cases hk
    · exact h
theorem name_nl {s : Str} (h : fName s = true) : s.contains 10 = false := by
  cases hc : s.contains 10 with
  | false => rfl
  | true =>
    have := name_no h 10 (List.contains_iff_mem.1 hc)
    exact absurd this (by decide)
theorem mkd_kind {s : Str} (h : mkd s ≠ 0) : fKind (mkd s) = true := by
  unfold mkd at *
  split
  · decide
  · split
    · decide
    · split
      · decide
      · split
        · decide
        · simp_all
theorem mo_mat {x : Mt} (h : MO TB x) : fMat x = true := by
  rcases h with ⟨t, ht, hk, rfl⟩ | ⟨a, b, c, ha, _, hc, ka, _, kb, kc, rfl⟩
  · have hn := tb_ident ht hk
    have := name_len hn
    unfold fMat
    rw [show fName nmL = true by decide, show fKind 1 = true by decide, name_nl hn, decide_eq_true (by show t.t.length ≤ 30; omega)]
    rfl
  · have h2 := tb_text hc kc
    unfold fMat
    rw [tb_ident ha ka, mkd_kind kb, h2.2, decide_eq_true (by show c.t.length ≤ 30; exact h2.1)]
    rfl
theorem go_gn {b c : Bool} {ns : List Str} (h : GO TB b c ns) : GN b c ns := by
  rcases h with h | ⟨h1, h2, h3⟩
  · exact Or.inl h
  · refine Or.inr ⟨h1, h2, fun n hn => ?_⟩
    obtain ⟨t, ht, hk, rfl⟩ := h3 n hn
    exact tb_ident ht hk
theorem gn_grp {b c : Bool} {ns : List Str} (h : GN b c ns) : fGrp b c ns = true := by
  rcases h with ⟨rfl, rfl, rfl⟩ | ⟨h1, h2, h3⟩
  · rfl
  · have hall : ns.all fName = true := List.all_eq_true.2 h3
    unfold fGrp
    rw [h2, hall]
    cases b <;> cases c <;> first | exact absurd rfl h1 | rfl
theorem rg_of {r : Int} (h : r = 0 ∨ ∃ t, TB t ∧ t.k = 3 ∧ r = t.d) : Rg r := by
  rcases h with h | ⟨t, ht, hk, rfl⟩
  · exact Or.inl h
  · exact Or.inr (tb_dur ht hk).1
/-! ### Lengths -/
theorem le_sum : ∀ (l : List Nat) (x : Nat), x ∈ l → x ≤ l.sum
  | [], x, h => by simp at h
  | y :: l, x, h => by
    rw [List.sum_cons]
    rcases List.mem_cons.1 h with rfl | h
    · omega
    · have := le_sum l x h
      omega
theorem join_le (c : Nat) : ∀ xs : List Str, (∀ x ∈ xs, x.length ≤ c) → (Lib.join xs [44, 32]).length ≤ (c + 2) * xs.length
  | [], _ => by simp [Lib.join_nil]
  | [x], h => by
    have := h x (by simp)
    rw [Lib.join_one]
    simp
    omega
  | x :: y :: l, h => by
    have ih := join_le c (y :: l) (fun z hz => h z (by simp [hz]))
    have := h x (by simp)
    rw [join_two, List.length_append, List.length_cons, List.length_cons, List.length_cons, Nat.mul_succ]
    omega
theorem mTx_le {x : Mt} (h : fMat x = true) : (mTx x).length ≤ 84 := by
  obtain ⟨h1, h2, h3, _⟩ := mat_facts h
  have := name_len h1
  have := sign_len (op_facts h2).1
  have := esc_len x.text
  unfold mTx qtx
  simp
  omega
theorem pMs_le {os : List Mt} (h : ∀ x ∈ os, fMat x = true) (hl : os.length ≤ 8) : (pMs os).length ≤ 688 := by
  have := join_le 84 (os.map mTx) (fun x hx => by
    obtain ⟨y, hy, rfl⟩ := List.mem_map.1 hx
    exact mTx_le (h y hy))
  unfold pMs
  rw [List.length_map] at this
  have : (84 + 2) * os.length ≤ 688 := by omega
  omega
theorem sel_le (p : Int) {m : List Mt} {r : Int} (hm : ∀ x ∈ m, fMat x = true) (hl : m.length ≤ 8) (hd : (dTx r).length ≤ 300) : (pr9 (eSel p m r)).length ≤ 1100 := by
  rw [pr_sel]
  have hw : (wS r).length ≤ 302 := by
    unfold wS
    split
    · simp
      omega
    · simp
  have h2 : (selT (ptN m).1 (ptN m).2).length ≤ 710 := by
    have hos : (pMs (ptN m).2).length ≤ 688 := by
      refine pMs_le (fun x hx => hm x (ptN_mem hx)) ?_
      cases m with
      | nil => simp [ptN]
      | cons y l =>
        show (if isMet y then (y.text, l) else ([], y :: l)).2.length ≤ 8
        split
        · simp at hl ⊢; omega
        · exact hl
    have ht : (ptN m).1.length ≤ 20 := by
      cases m with
      | nil => simp [ptN]
      | cons y l =>
        show (if isMet y then (y.text, l) else ([], y :: l)).1.length ≤ 20
        split
        · rename_i h
          have := name_len (met_is h).2
          show y.text.length ≤ 20
          omega
        · simp
    unfold selT
    split
    · simp
      omega
    · omega
  rw [List.length_append]
  omega
theorem gp_le {b c : Bool} {ns : List Str} (h : GN b c ns) : (gpS b c false false ns).length ≤ 190 ∧ (gpS false false b c ns).length ≤ 190 := by
  have hj : (Lib.join ns [44, 32]).length ≤ 176 := by
    rcases h with ⟨_, _, rfl⟩ | ⟨_, h2, h3⟩
    · simp [Lib.join_nil]
    · have := join_le 20 ns (fun n hn => (name_len (h3 n hn)).2)
      have := once_len h2
      have : (20 + 2) * ns.length ≤ 176 := by omega
      omega
  unfold gpS gw
  cases b <;> cases c <;> simp <;> omega
/-! ### All that is read -/
theorem snd_num (p v : Int) (h0 : 0 ≤ v) : sndE (eNum p false v) = true := by
  have hf : Fx.fIs false v = true := by unfold Fx.fIs; simp; omega
  unfold eNum
  rw [sndE_mk, sndL]
  simp [alk, ownE, kindE, fK, nEq, msEq, hf, h0]
theorem snd_sel (p : Int) {m : List Mt} {r : Int} (hm : ∀ x ∈ m, fMat x = true) (hl : m.length ≤ 8) (hr : Rg r) : sndE (eSel p m r) = true := by
  have hall : m.all fMat = true := List.all_eq_true.2 hm
  have hf : fRange r = true := by
    unfold fRange
    rcases hr with rfl | ⟨n, _, _, rfl⟩
    · decide
    · simp; omega
  unfold eSel
  rw [sndE_mk, sndL]
  simp [alk, ownE, kindE, fK, nEq, msEq_refl, hf, hl]
  simpa using hm
theorem snd_call (p : Int) {s : Str} {a : Ex} (hs : fName s = true) (h1 : isAggB s = false) (h2 : isModB s = false) (ha : sndE a = true) : sndE (eCall p s a) = true := by
  unfold eCall
  rw [sndE_mk, sndL, sndL, ha]
  simp [alk, ownE, kindE, fK, nEq, msEq, fFun, hs, h1, h2]
theorem snd_agg (p : Int) {s : Str} {b1 b2 : Bool} {ns : List Str} {a : Ex} (hs : isAggB s = true) (hg : GN b1 b2 ns) (ha : sndE a = true) : sndE (eAgg p s b1 b2 ns a) = true := by
  unfold eAgg
  rw [sndE_mk, sndL, sndL, ha]
  simp [alk, ownE, kindE, fK, nEq, msEq, hs, gn_grp hg]
theorem snd_bin (p : Int) {s : Str} {b3 b4 : Bool} {ns : List Str} {a b : Ex} (hl : 1 ≤ lv s) (hg : GN b3 b4 ns) (ha : sndE a = true) (hb : sndE b = true) : sndE (eBin p s b3 b4 ns a b) = true := by
  have h0 : (lv s != 0) = true := by rw [bne_iff_ne]; omega
  unfold eBin
  rw [sndE_mk, sndL, sndL, sndL, ha, hb]
  simp [alk, ownE, kindE, fK, nEq, msEq, gn_grp hg]
  omega
theorem snd_neg (p : Int) {a : Ex} (ha : sndE a = true) : sndE (eNeg p a) = true := by
  unfold eNeg
  rw [sndE_mk, sndL, sndL, ha]
  simp [alk, ownE, kindE, fK, nEq, msEq]
theorem back_ok : RdOK TB (fun n e => sndE e = true ∧ Rt e ∧ (pr9 e).length ≤ 1100 * n) := {
  num := fun t ht hk => by
    obtain ⟨h1, h2, h3, h4⟩ := tb_num ht hk
    rw [h1]
    refine ⟨snd_num _ _ h2, rt_num _ _ h2 h3, ?_⟩
    have e : pr9 (eNum t.p false t.n) = prT (tNum t.n) := by unfold eNum; rw [pr9_mk]; rfl
    rw [e]
    omega
  sel := fun p m r hm hl hr => by
    have hm' : ∀ x ∈ m, fMat x = true := fun x hx => mo_mat (hm x hx)
    refine ⟨snd_sel p hm' hl (rg_of hr), rt_sel p m r hm' hl (rg_of hr), ?_⟩
    have hd : (dTx r).length ≤ 300 := by
      rcases hr with rfl | ⟨t, ht, hk, rfl⟩
      · have : dTx 0 = [48, 116] := by unfold dTx Lib.itoa; simp [Lib.decDigits]
        rw [this]
        simp
      · exact (tb_dur ht hk).2
    have := sel_le p hm' hl hd
    omega
  call := fun n t a ht hk h1 h2 ha => by
    have hn := tb_ident ht hk
    have hl := name_len hn
    refine ⟨snd_call _ hn h1 h2 ha.1, rt_call _ _ hn h1 h2 ha.2.1, ?_⟩
    have e : pr9 (eCall t.p t.t a) = t.t ++ [40] ++ pr9 a ++ [41] := by unfold eCall; rw [pr9_mk, pr9L, pr9L]; rfl
    have := ha.2.2
    rw [e]
    simp
    omega
  agg := fun n t b1 b2 ns a ht hs hg ha => by
    have hg' := go_gn hg
    have hl := name_len (agg_facts hs).1
    refine ⟨snd_agg _ hs hg' ha.1, rt_agg _ _ _ _ _ hs hg' ha.2.1, ?_⟩
    have := ha.2.2
    have := (gp_le hg').1
    rw [pr_agg]
    simp
    omega
  bin := fun n m t b3 b4 ns a b ht hk hl hg ha hb => by
    have hg' := go_gn hg
    have hs := tb_sign ht hk
    have := sign_len hs
    refine ⟨snd_bin _ hl hg' ha.1 hb.1, rt_bin _ _ _ _ _ hs hl hg' ha.2.1 hb.2.1, ?_⟩
    have := ha.2.2
    have := hb.2.2
    have := (gp_le hg').2
    rw [pr_bin]
    simp
    omega
  neg := fun n t a _ ha => by
    refine ⟨snd_neg _ ha.1, rt_neg _ ha.2.1, ?_⟩
    have e : pr9 (eNeg t.p a) = [45] ++ pr9 a := by unfold eNeg; rw [pr9_mk, pr9L, pr9L]; rfl
    have := ha.2.2
    rw [e]
    simp
    omega }
/-! ### Places play no part -/
theorem map_str {β : Type} (f : Ex → β) : ∀ l : List Ex, (∀ x ∈ l, f (str x) = f x) → (strL l).map f = l.map f
  | [], _ => by rw [strL]
  | x :: l, h => by rw [strL, List.map_cons, List.map_cons, h x (by simp), map_str f l (fun z hz => h z (by simp [hz]))]
theorem pr9_str (e : Ex) : pr9 (str e) = pr9 e := by
  refine Ex.ind (fun e => pr9 (str e) = pr9 e) ?_ e
  rintro ⟨k, p, o, v, s, m, r, b1, b2, b3, b4, ns, ks⟩ ih
  rw [str_mk, pr9_mk, pr9_mk, pr9L_eq, pr9L_eq, map_str pr9 ks ih]
theorem sz_str (e : Ex) : sz (str e) = sz e := by
  refine Ex.ind (fun e => sz (str e) = sz e) ?_ e
  rintro ⟨k, p, o, v, s, m, r, b1, b2, b3, b4, ns, ks⟩ ih
  rw [str_mk, sz_mk, sz_mk, szL_map, szL_map, map_str sz ks ih]
theorem snd_str (e : Ex) : sndE (str e) = sndE e := by
  refine Ex.ind (fun e => sndE (str e) = sndE e) ?_ e
  rintro ⟨k, p, o, v, s, m, r, b1, b2, b3, b4, ns, ks⟩ ih
  have hall : (strL ks).all sndE = ks.all sndE := by
    have e1 : ∀ l : List Ex, l.all sndE = (l.map sndE).all fun x => x := fun l => by rw [List.all_map]; rfl
    rw [e1, e1, map_str sndE ks ih]
  rw [str_mk, sndE_mk, sndE_mk, sndL_eq, sndL_eq, hall]
  unfold kindE
  rw [strL_len]
  rfl
theorem eqx_is {a b : Ex} (h : Eqx a b) : pr9 a = pr9 b ∧ isE a = isE b := by
  have h1 := congrArg pr9 h
  have h2 := congrArg sz h
  have h3 := congrArg sndE h
  rw [pr9_str, pr9_str] at h1
  rw [sz_str, sz_str] at h2
  rw [snd_str, snd_str] at h3
  refine ⟨h1, ?_⟩
  unfold isE
  rw [h2, h3]
/-- What was read of a short text, printed, is read as the same, unless it is too long or nested too deep. -/
theorem back_read {s : Str} (hs : s.length ≤ 300) (h : psE s = 0) : isE (psX s) = true ∧ (pr9 (psX s)).length ≤ 1000000 ∧ (600 < (pr9 (psX s)).length → psE (pr9 (psX s)) = 11) ∧ ((pr9 (psX s)).length ≤ 600 → psE (pr9 (psX s)) = 72 ∨ (psE (pr9 (psX s)) = 0 ∧ smE (psX (pr9 (psX s))) (psX s) = true ∧ prE (psX (pr9 (psX s))) = pr9 (psX s) ∧ pr9 (psX (pr9 (psX s))) = pr9 (psX s))) := by
  obtain ⟨_, l, e, h1, h2, h3, h4, h5⟩ := ps_good h
  have hT : All TB (l ++ [tEnd s.length]) := by
    intro t ht
    rcases List.mem_append.1 ht with ht | ht
    · obtain ⟨_, g2, g3⟩ := (scanG_facts s.length (lead s).length (lead s) (Nat.le_refl _) (lead_le s)).2 l h1
      have hle := lead_le s
      obtain ⟨y, p, ho, rfl, _, _⟩ := g2 t ht
      refine Or.inr ⟨y, p, ho, rfl, ?_⟩
      have : (prT (y.put p)).length ≤ (l.map fun x => (prT x).length).sum := by
        have hm : (prT (y.put p)).length ∈ l.map fun x => (prT x).length := List.mem_map.2 ⟨_, ht, rfl⟩
        exact le_sum _ _ hm
      rw [prT_put] at this
      omega
    · simp at ht
      subst ht
      exact Or.inl rfl
  obtain ⟨k, ⟨b1, b2, b3⟩, hk⟩ := (rd_all (T := TB) (E := fun _ => True) (fun _ _ => trivial) trivial back_ok hT).2 e h2
  have hll : l.length ≤ s.length := (sc_toks h1).1
  have hk' : k ≤ 301 := by simp at hk; omega
  have hsz := (ps_fine s).2.1
  rw [h3] at hsz ⊢
  have hIs : isE e = true := by
    unfold isE
    rw [b1, decide_eq_true (by omega)]
    rfl
  refine ⟨hIs, by omega, fun hb => ?_, fun hb => ?_⟩
  · unfold psE
    rw [(sc_big hb).1]
    rfl
  · obtain ⟨ts, c1, c2, c3⟩ := b2
    have hlex := c1 [] [] (Or.inl rfl) Lx.nil
    rw [List.append_nil, List.append_nil] at hlex
    obtain ⟨l', g1, g2⟩ := hlex (pr9 e).length (Nat.le_refl _)
    obtain ⟨e1, _, e3⟩ := sc_ok (s := pr9 e) (by omega) g1
    have key : (∃ e', rdP (scL (pr9 e)) = .inr e' ∧ Eqx e' e) ∨ ∃ p, rdP (scL (pr9 e)) = .inl (p, 72) := by
      rw [e3]
      unfold rdP
      generalize endP (l' ++ [tEnd (pr9 e).length]) = q
      have hE : (tEnd (pr9 e).length).k = 0 := rfl
      generalize tEnd (pr9 e).length = E2 at *
      have hst : StQ q [E2] := ⟨(by show E2.k ≠ 1; rw [hE]; decide), sg0 hE, sg0 hE, sg0 hE⟩
      unfold whP
      rcases c2 q 15 l' [E2] g2 hst with ⟨e', r1, r2⟩ | ⟨p, r1⟩
      · refine Or.inl ⟨e', ?_, r2⟩
        rw [cmp_stop r1 (Or.inl hE)]
        show (if (hd q [E2]).k = 0 then _ else _) = _
        rw [if_pos (show (hd q [E2]).k = 0 from hE)]
      · refine Or.inr ⟨p, ?_⟩
        rw [cmp_bad r1]
        rfl
    rcases key with ⟨e', r1, r2⟩ | ⟨p, r1⟩
    · refine Or.inr ⟨?_, ?_, ?_, ?_⟩
      · unfold psE rdE
        rw [if_pos e1, r1]
      · have : psX (pr9 e) = e' := by unfold psX rdX; rw [if_pos e1, r1]
        rw [this]
        exact smE_eqx r2
      · have : psX (pr9 e) = e' := by unfold psX rdX; rw [if_pos e1, r1]
        obtain ⟨i1, i2⟩ := eqx_is r2
        rw [this]
        unfold prE
        rw [i2, hIs, if_pos rfl, i1]
      · have : psX (pr9 e) = e' := by unfold psX rdX; rw [if_pos e1, r1]
        rw [this]
        exact (eqx_is r2).1
    · refine Or.inl ?_
      unfold psE rdE
      rw [if_pos e1, r1]
end Go.Proofs.YtkppcgimhnocdaaGreatDoor
/- An expression printed is read as the same, if that isn't too long or nested too deep. -/
namespace Go.Proofs.YtkppcgimhnocdaaGreatDoor
open Go.RowKit

set_option maxHeartbeats 16000000 in
set_option maxRecDepth 20000 in
theorem back_any (s : Str) (w : World) (hs0 : s.length ≤ 9223372036854775807) (he : Ev w) : Calls Tryz.prog 6 #[tx s] w fun e w' => e = .returned (.bool true) ∧ Below w.heap.size w w' := by
  have hkn := known_any w he
  by_cases h3 : s.length ≤ 300
  · have h3' : ¬ (300 : Int) < s.length := by omega
    have hps := fun W hE => parse_any s W (by omega) hE
    by_cases h0 : psE s = 0
    · obtain ⟨hIs, hL, hlong, hshort⟩ := back_read h3 h0
      have HLong : Hid _ := hlong
      have HShort : Hid _ := hshort
      have hfx := smB_ok _ (ps_fine s).1
      have hpr := fun W cs (P : Nat → Prop) (h : TrP P W (psX s) cs) hE => print9_any h hfx.1 hfx.2 hL hE
      have hpE : prE (psX s) = pr9 (psX s) := by unfold prE; rw [hIs]; rfl
      simp only [hpE] at hpr
      have his := fun W cs (P : Nat → Prop) (h : TrP P W (psX s) cs) => isE_any h hfx.1
      simp only [hIs] at his
      have hps2 := fun W hE => parse_any (pr9 (psX s)) W hL hE
      have hfy := smB_ok _ (ps_fine (pr9 (psX s))).1
      rw [h0] at hps
      clear hlong hshort hIs hpE h0 hs0
      generalize psX s = X at *
      generalize psA s = pa at *
      obtain ⟨t, HT⟩ : ∃ t, Hid (pr9 X = t) := ⟨_, rfl⟩
      rw [HT.out] at hL HLong HShort hpr hps2 hfy
      obtain ⟨Y, HY⟩ : ∃ Y, Hid (psX t = Y) := ⟨_, rfl⟩
      rw [HY.out] at HShort hps2 hfy
      have hsame := fun (P P' : Nat → Prop) W ca cb => same_ok (P := P) (P' := P') Y X hfy.1 W ca cb
      generalize psA t = pb at *
      go_enter Tryz.func6, Tryz.ntmps6
      go_wp2_with fail
      refine hkn.mono ?_
      rintro e w1 ⟨rfl, b1⟩
      go_wp2_with fail
      refine (hps w1 (he.later b1)).mono ?_
      rintro e w3 ⟨cs, rfl, t3, b3⟩
      have row := t3.row
      have B3 := b1.trans (b3.mono b1.size)
      have q3 := heap_new w3 (.cells zE 29)
      have zB3 := B3.size
      have T3 : Hid _ := t3
      obtain ⟨vm, vn, ao, cap, ecs, sm, sn, _, _⟩ := t3.parts
      obtain ⟨am, cm, rfl, _⟩ := sm
      obtain ⟨an, cn, rfl, _⟩ := sn
      subst ecs
      clear hps
      go_upto_region 6 with (refine wp_put rfl 29 _ _ rfl w3.heap.size (exA X.k X.p X.o X.v X.s (.slice am X.m.length cm) X.r X.b1 X.b2 X.b3 X.b4 (.slice an X.ns.length cn) (.slice ao X.ks.length cap)) rfl rfl _ 29 q3 13 inf29 rfl row ?_; intro w4 q4 o4 z4; clear z4)
      have D4 : Below w3.heap.size w3 w4 := ((Off.of (bal (Below.refl w3.heap.size w3) (.cells zE 29)) []).trans o4 (by simp)).below (by simp)
      have B4 := B3.trans (D4.mono B3.size)
      go_wp2_with (refine wp_get rfl 29 _ rfl w3.heap.size (exA X.k X.p X.o X.v X.s (.slice am X.m.length cm) X.r X.b1 X.b2 X.b3 X.b4 (.slice an X.ns.length cn) (.slice ao X.ks.length cap)) 29 rfl q4 _ Tryz.underlying29 rfl 13 inf29 rfl ?_)
      refine (hpr w4 _ _ (TrP.later T3.out D4) (he.later B4)).mono ?_
      rintro e w4' ⟨rfl, b4⟩
      have B4' := B4.trans (b4.mono B4.size)
      have D4' := D4.trans (b4.mono D4.size)
      have q4' := below_heap b4 q4
      go_wp2_with fail
      refine (hps2 w4' (he.later B4')).mono ?_
      rintro e w5 ⟨cs', rfl, t5, b5⟩
      have row' := t5.row
      have B5 := B4'.trans (b5.mono B4'.size)
      have D5 := D4'.trans (b5.mono D4'.size)
      have q5 := below_heap b5 q4'
      have q6 := heap_new w5 (.cells zE 29)
      have q5' := below_heap (bal (Below.refl w5.heap.size w5) (.cells zE 29)) q5
      have hlt := lt_of_heap q5
      have T5 : Hid _ := t5
      obtain ⟨vm', vn', ao', cap', ecs', sm', sn', _, _⟩ := t5.parts
      obtain ⟨am', cm', rfl, _⟩ := sm'
      obtain ⟨an', cn', rfl, _⟩ := sn'
      subst ecs'
      clear hps2 q4 o4 q4' hpr
      by_cases h6 : t.length ≤ 600
      · have h6' : ¬ (600 : Int) < t.length := by omega
        rcases HShort.out h6 with g72 | ⟨g0, g1, g2, g3⟩
        · rw [g72]
          clear HLong HShort g72 hsame
          go_upto_region 10 with (refine wp_put rfl 29 _ _ rfl w5.heap.size (exA Y.k Y.p Y.o Y.v Y.s (.slice am' Y.m.length cm') Y.r Y.b1 Y.b2 Y.b3 Y.b4 (.slice an' Y.ns.length cn') (.slice ao' Y.ks.length cap')) rfl rfl _ 29 q6 13 inf29 rfl row' ?_; intro w6 r6 o6 z6; clear z6)
          have D6 : Below w5.heap.size w5 w6 := ((Off.of (bal (Below.refl w5.heap.size w5) (.cells zE 29)) []).trans o6 (by simp)).below (by simp)
          have B6 := B5.trans (D6.mono B5.size)
          have D65 := D5.trans (D6.mono D5.size)
          have p6 := o6.heap q5' (by simp <;> omega)
          go_wp2_with (refine wp_get rfl 29 _ rfl w3.heap.size (exA X.k X.p X.o X.v X.s (.slice am X.m.length cm) X.r X.b1 X.b2 X.b3 X.b4 (.slice an X.ns.length cn) (.slice ao X.ks.length cap)) 29 rfl p6 _ Tryz.underlying29 rfl 13 inf29 rfl ?_)
          refine (his w6 _ _ (TrP.later T3.out D65)).mono ?_
          rintro e w7 ⟨rfl, b7⟩
          go_wp2_with fail
          go_ret
          exact ⟨by simp, B6.trans (b7.mono B6.size)⟩
        · have hpy := fun W cs (P : Nat → Prop) (h : TrP P W Y cs) hE => print9_any h hfy.1 hfy.2 (by rw [g3]; exact hL) hE
          simp only [g2] at hpy
          simp only [g1] at hsame
          rw [g0]
          clear HLong HShort g0 g1 g2 g3
          go_upto_region 10 with (refine wp_put rfl 29 _ _ rfl w5.heap.size (exA Y.k Y.p Y.o Y.v Y.s (.slice am' Y.m.length cm') Y.r Y.b1 Y.b2 Y.b3 Y.b4 (.slice an' Y.ns.length cn') (.slice ao' Y.ks.length cap')) rfl rfl _ 29 q6 13 inf29 rfl row' ?_; intro w6 r6 o6 z6; clear z6)
          have D6 : Below w5.heap.size w5 w6 := ((Off.of (bal (Below.refl w5.heap.size w5) (.cells zE 29)) []).trans o6 (by simp)).below (by simp)
          have B6 := B5.trans (D6.mono B5.size)
          have D65 := D5.trans (D6.mono D5.size)
          have p6 := o6.heap q5' (by simp <;> omega)
          go_wp2_with (refine wp_get rfl 29 _ rfl w3.heap.size (exA X.k X.p X.o X.v X.s (.slice am X.m.length cm) X.r X.b1 X.b2 X.b3 X.b4 (.slice an X.ns.length cn) (.slice ao X.ks.length cap)) 29 rfl p6 _ Tryz.underlying29 rfl 13 inf29 rfl ?_)
          refine (his w6 _ _ (TrP.later T3.out D65)).mono ?_
          rintro e w7 ⟨rfl, b7⟩
          have B7 := B6.trans (b7.mono B6.size)
          have p7 := below_heap b7 p6
          have r7 := below_heap b7 r6
          have x0 := (cell_at p7 0).trans rfl
          have x1 := (cell_at p7 1).trans rfl
          have x2 := (cell_at p7 2).trans rfl
          have x3 := (cell_at p7 3).trans rfl
          have x4 := (cell_at p7 4).trans rfl
          have x5 := (cell_at p7 5).trans rfl
          have x6 := (cell_at p7 6).trans rfl
          have x7 := (cell_at p7 7).trans rfl
          have x8 := (cell_at p7 8).trans rfl
          have x9 := (cell_at p7 9).trans rfl
          have x10 := (cell_at p7 10).trans rfl
          have x11 := (cell_at p7 11).trans rfl
          have x12 := (cell_at p7 12).trans rfl
          have y0 := (cell_at r7 0).trans rfl
          have y1 := (cell_at r7 1).trans rfl
          have y2 := (cell_at r7 2).trans rfl
          have y3 := (cell_at r7 3).trans rfl
          have y4 := (cell_at r7 4).trans rfl
          have y5 := (cell_at r7 5).trans rfl
          have y6 := (cell_at r7 6).trans rfl
          have y7 := (cell_at r7 7).trans rfl
          have y8 := (cell_at r7 8).trans rfl
          have y9 := (cell_at r7 9).trans rfl
          have y10 := (cell_at r7 10).trans rfl
          have y11 := (cell_at r7 11).trans rfl
          have y12 := (cell_at r7 12).trans rfl
          go_wp2_with fail
          refine (hsame _ _ w7 _ _ (TrP.later T5.out (D6.trans (b7.mono D6.size))) (TrP.later T3.out (D65.trans (b7.mono D65.size)))).mono ?_
          rintro e w8 ⟨rfl, b8⟩
          have B8 := B7.trans (b8.mono B7.size)
          have r8 := below_heap b8 r7
          clear x0 y0 x1 y1 x2 y2 x3 y3 x4 y4 x5 y5 x6 y6 x7 y7 x8 y8 x9 y9 x10 y10 x11 y11 x12 y12
          have z0 := (cell_at r8 0).trans rfl
          have z1 := (cell_at r8 1).trans rfl
          have z2 := (cell_at r8 2).trans rfl
          have z3 := (cell_at r8 3).trans rfl
          have z4 := (cell_at r8 4).trans rfl
          have z5 := (cell_at r8 5).trans rfl
          have z6 := (cell_at r8 6).trans rfl
          have z7 := (cell_at r8 7).trans rfl
          have z8 := (cell_at r8 8).trans rfl
          have z9 := (cell_at r8 9).trans rfl
          have z10 := (cell_at r8 10).trans rfl
          have z11 := (cell_at r8 11).trans rfl
          have z12 := (cell_at r8 12).trans rfl
          go_wp2_with fail
          refine (hpy w8 _ _ (TrP.later T5.out ((D6.trans (b7.mono D6.size)).trans (b8.mono (D6.trans (b7.mono D6.size)).size))) (he.later B8)).mono ?_
          rintro e w9 ⟨rfl, b9⟩
          go_wp2_with fail
          go_ret
          exact ⟨by simp, B8.trans (b9.mono B8.size)⟩
      · have h6' : (600 : Int) < t.length := by omega
        have g11 := HLong.out (by omega)
        rw [g11]
        clear HLong HShort g11 hsame
        go_upto_region 10 with (refine wp_put rfl 29 _ _ rfl w5.heap.size (exA Y.k Y.p Y.o Y.v Y.s (.slice am' Y.m.length cm') Y.r Y.b1 Y.b2 Y.b3 Y.b4 (.slice an' Y.ns.length cn') (.slice ao' Y.ks.length cap')) rfl rfl _ 29 q6 13 inf29 rfl row' ?_; intro w6 r6 o6 z6; clear z6)
        have D6 : Below w5.heap.size w5 w6 := ((Off.of (bal (Below.refl w5.heap.size w5) (.cells zE 29)) []).trans o6 (by simp)).below (by simp)
        have B6 := B5.trans (D6.mono B5.size)
        have D65 := D5.trans (D6.mono D5.size)
        have p6 := o6.heap q5' (by simp <;> omega)
        go_wp2_with (refine wp_get rfl 29 _ rfl w3.heap.size (exA X.k X.p X.o X.v X.s (.slice am X.m.length cm) X.r X.b1 X.b2 X.b3 X.b4 (.slice an X.ns.length cn) (.slice ao X.ks.length cap)) 29 rfl p6 _ Tryz.underlying29 rfl 13 inf29 rfl ?_)
        refine (his w6 _ _ (TrP.later T3.out D65)).mono ?_
        rintro e w7 ⟨rfl, b7⟩
        go_wp2_with fail
        go_ret
        exact ⟨by simp, B6.trans (b7.mono B6.size)⟩
    · have h0' : (psE s != 0) = true := by rw [bne_iff_ne]; exact h0
      clear h0 hs0
      generalize psX s = X at *
      generalize psA s = pa at *
      generalize psE s = vE at *
      go_enter Tryz.func6, Tryz.ntmps6
      go_wp2_with fail
      refine hkn.mono ?_
      rintro e w1 ⟨rfl, b1⟩
      go_wp2_with fail
      refine (hps w1 (he.later b1)).mono ?_
      rintro e w3 ⟨cs, rfl, t3, b3⟩
      have row := t3.row
      have B3 := b1.trans (b3.mono b1.size)
      have q3 := heap_new w3 (.cells zE 29)
      have zB3 := B3.size
      have Ba := bal B3 (.cells zE 29)
      clear hps
      go_wp2_with (refine wp_put rfl 29 _ _ rfl w3.heap.size cs rfl rfl _ 29 q3 13 inf29 rfl row ?_; intro w4 q4 o4 z4; clear z4)
      go_ret
      exact ⟨rfl, ((Off.of Ba []).trans o4 (by simp <;> omega)).below (by simp)⟩
  · have h3' : (300 : Int) < s.length := by omega
    go_enter Tryz.func6, Tryz.ntmps6
    go_wp2_with fail
    refine hkn.mono ?_
    rintro e w1 ⟨rfl, b1⟩
    go_wp2_with fail
    go_ret
    exact ⟨rfl, b1⟩
end Go.Proofs.YtkppcgimhnocdaaGreatDoor
/- ExprBack: for every input the law returns true, and its arguments read as they did: the row, and its card, tied to the program's text. Conditions: none beyond the card's own. -/
namespace Go.Proofs.YtkppcgimhnocdaaGreatDoor.exprBackRow
open Go.ChangeShapes Go.WideShapes Go.ChangeAt Go.RowKit Go.Joins Go.ChangeMaps

theorem own : ownKnob Tryz.prog.godebug = none := by kernel_rfl
set_option maxRecDepth 100000 in
theorem lifted (os : Os) (started : os.Started) (H : Type) (enc : TypeId × Value → H) :
    ReturnsInHanded {} Tryz.checked os 6 .any (fun w args => (Rows.exprBackSpec.pre enc Tryz.prog Tryz.f6 Rows.exprBackRow.domain false w args ∧ laidMetH Tryz.prog Rows.exprBackRow.laid w) ∧ sizedMet enc Tryz.prog Tryz.f6 (OpenSpec.ofChange Rows.exprBackSpec) false w args)
      (Rows.exprBackSpec.post enc Tryz.prog Tryz.f6 false true false false) := by
  refine lift_env (fun _ _ _ hh h => h.of_heap hh) (C := Tryz.checked) (X := fun w _ => laidMetH Tryz.prog Rows.exprBackRow.laid w) own started (by kernel_rfl) Tryz.func6
    (ChangeSpec.witness_shaped (enc := enc) (C := Tryz.checked) (os := os) (X := fun w _ => laidMetH Tryz.prog Rows.exprBackRow.laid w) false (World.laidAll Tryz.prog os Rows.exprBackRow.laid) #[.string ⟨#[]⟩] 8 (World.laidAll_os _ _ _)
      (World.shaped_of_ZipB (by kernel_rfl) (by kernel_rfl)) (by kernel_rfl) (by kernel_rfl) (by kernel_rfl)
      (by rw [MakeChecks.laidMetH_plain _ _ _ (by kernel_rfl)]; exact laidMet_laidAll _ (by kernel_rfl) (by kernel_rfl))) ?_
  intro W base args ds gs before hval0 hW hsh hL
  have hval : ∀ (j : Nat) t v, Tryz.f6.params[j]? = some t → args[j]? = some v → Value.okWide Tryz.prog W .any base t v := hval0
  have hW' := hW
  obtain ⟨p, q, hA0, hV, rfl, hfz, hnd⟩ := hW
  have hA : DataW.TrodAll enc Tryz.prog W 0 (fun _ => true) true Tryz.f6.params.toList args.toList ds p := hA0
  rw [Tryz.params6] at hA hval
  obtain ⟨v0, vs0, d0, ds0, p0, q0, hargs, rfl, rfl, h0, r0⟩ := trodAll_cons hA
  obtain ⟨rfl, rfl, rfl⟩ := trodAll_nil r0
  obtain rfl : args = #[v0] := by cases args; simp_all
  obtain ⟨rfl, rfl⟩ := trodVars_none hV
  obtain ⟨s0, rfl, rfl, rfl, w0⟩ := open_string Tryz.underlying9 (hval 0 9 v0 rfl rfl) h0
  obtain ⟨l0, rfl, ln0⟩ := tx_of s0
  have b0 : l0.length ≤ 9223372036854775807 := by rw [ln0]; unfold maxLen at w0; omega
  clear hA0 hval0
  simp only [List.append_nil] at hW'
  refine (back_any l0 W b0   (env_of hsh hL)).mono fun e W' ⟨he, hg⟩ => ?_
  subst he
  exact ⟨_, rfl, _, _, _, [], [], [], hW', trodAll_mk1 (shut_bool Tryz.underlying4 _), (trodAll_cons_mk (shut_string Tryz.underlying9 w0) trodAll_mk0), rfl, hg.frame _, fun h => by cases h⟩

theorem holds : Rows.ExprBackSaid :=
  OpenClaim.holds_of_wide 6 Tryz.f6 rfl rfl rfl rfl rfl rfl rfl ⟨rfl, rfl, rfl, rfl, rfl⟩ rfl rfl rfl rfl rfl (by kernel_rfl) Tryz.func6 (by kernel_rfl)
    (of_decide_eq_true (by kernel_rfl)) (by unfold Func.isWrapper; first | (rw [if_pos (by decide +kernel)]; kernel_rfl) | (rw [if_neg (by decide +kernel)]; exact ⟨rfl, rfl⟩))
    (fun os started H enc _ => lifted os started H enc)
end Go.Proofs.YtkppcgimhnocdaaGreatDoor.exprBackRow
namespace Go.Proofs.YtkppcgimhnocdaaGreatDoor
open Go
theorem exprBack_card : Rows.ExprBackCardSaid :=
  Claim7.holds_tied_plain_at .later [] [.data, .data, .data, .data, .sentinel, .sentinel, .pinned] true (true, "c1cea7cbe15cbc77f432ea533c39a2743800b6a3c2a517e17a640eef7bc342ac") true exprBackRow.holds (fun _ h => by cases h) (by kernel_rfl) (fun _ h => by cases h) exprBack_row_tie rfl ⟨rfl, rfl⟩ (by kernel_rfl) rfl
    (fun f fn hf hfn => by
      obtain rfl : f = 6 := Option.some.inj ((show Tryz.prog.funcNamed "spillway/spillwaylaw8.ExprBack" = some 6 by kernel_rfl).symm.trans hf) |>.symm
      obtain rfl : fn = Tryz.f6 := (Option.some.inj (Tryz.func6.symm.trans hfn)).symm
      exact ⟨by kernel_rfl, fun j t ht => by
        rw [Tryz.params6] at ht
        have hm : t ∈ [9] := by simpa using Array.mem_of_getElem? ht
        have hall : ([9].all fun u => !Tryz.prog.wantsStandIn u) = true := by kernel_rfl
        exact (show Tryz.prog.wantsStandIn t = false by simpa using List.all_eq_true.1 hall t hm)⟩)
    (by kernel_rfl)
end Go.Proofs.YtkppcgimhnocdaaGreatDoor
