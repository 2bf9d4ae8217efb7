/- TypesHorizons: for every input the law returns true, and its arguments read as they did: the row, and its card, tied to the program's text. Conditions: none beyond the card's own. -/
import Derived.Test.YteankdaegdhfiaaGreatDoorMB
import Derived.Test.YteankdaegdhfiaaGreatDoorMS
import Derived.Test.YteankdaegdhfiaaGreatDoorMT
import Derived.Test.YteankdaegdhfiaaGreatDoorMU
import Derived.Deep.MidRow
import Derived.Test.YteankdaegdhfiaaGreatDoorTie
import Derived.Test.YteankdaegdhfiaaGreatDoorCards
/- What can be said of all that the reader answers: plain facts. -/
namespace Go.Proofs.YteankdaegdhfiaaGreatDoor
open Go.RowKit

/-- A matcher that was read. -/
def MO (T : Tk → Prop) (x : Mt) : Prop := (∃ t, T t ∧ t.k = 1 ∧ x = ⟨nmL, 1, t.t⟩) ∨ ∃ a b c, T a ∧ T b ∧ T c ∧ a.k = 1 ∧ b.k = 5 ∧ mkd b.t ≠ 0 ∧ c.k = 4 ∧ x = ⟨a.t, mkd b.t, c.t⟩
/-- Names that were read, by one of two words, or none. -/
def GO (T : Tk → Prop) (b c : Bool) (ns : List Str) : Prop := (b = false ∧ c = false ∧ ns = []) ∨ (b ≠ c ∧ fewN ns = true ∧ ∀ n ∈ ns, ∃ t, T t ∧ t.k = 1 ∧ n = t.t)
structure RdOK (T : Tk → Prop) (X : Nat → Ex → Prop) : Prop where
  num : ∀ t, T t → t.k = 2 → X 1 (eNum t.p t.o t.n)
  sel : ∀ p m r, (∀ x ∈ m, MO T x) → m.length ≤ 8 → (r = 0 ∨ ∃ t, T t ∧ t.k = 3 ∧ r = t.d) → X 1 (eSel p m r)
  call : ∀ n t a, T t → t.k = 1 → isAggB t.t = false → isModB t.t = false → X n a → X (n + 1) (eCall t.p t.t a)
  agg : ∀ n t b1 b2 ns a, T t → isAggB t.t = true → GO T b1 b2 ns → X n a → X (n + 1) (eAgg t.p t.t b1 b2 ns a)
  bin : ∀ n m t b3 b4 ns a b, T t → t.k = 5 → 1 ≤ lv t.t → GO T b3 b4 ns → X n a → X m b → X (n + m + 1) (eBin t.p t.t b3 b4 ns a b)
  neg : ∀ n t a, T t → X n a → X (n + 1) (eNeg t.p a)
def All (T : Tk → Prop) (l : List Tk) : Prop := ∀ t ∈ l, T t
theorem All.tail {T : Tk → Prop} {l : List Tk} (h : All T l) : All T l.tail := fun t ht => h t (List.mem_of_mem_tail ht)
/-- What comes of so many signs. -/
def Oc {α : Type} (T : Tk → Prop) (E : Int → Prop) (A : Nat → α → Prop) (n : Nat) (a : Rs α) : Prop := (∀ er, a = .inl er → E er.1 ∧ (er.2 = 71 ∨ er.2 = 72 ∨ er.2 = 32)) ∧ ∀ x r, a = .inr (x, r) → ∃ k, A k x ∧ k + r.length ≤ n ∧ All T r
section
variable {T : Tk → Prop} {E : Int → Prop} {q : Int}
theorem Oc.good {α : Type} {A : Nat → α → Prop} {n k : Nat} {x : α} {r : List Tk} (h : A k x) (hn : k + r.length ≤ n) (hr : All T r) : Oc T E A n (.inr (x, r)) := by
  refine ⟨fun er h' => (by cases h'), fun y s h' => ?_⟩
  injection h' with h'
  injection h' with h1 h2
  subst h1 h2
  exact ⟨k, h, hn, hr⟩
theorem Oc.badly {α : Type} {A : Nat → α → Prop} {n : Nat} {p c : Int} (h : E p) (hc : c = 71 ∨ c = 72 ∨ c = 32) : Oc T E A n (.inl (p, c)) := by
  refine ⟨fun er h' => ?_, fun y s h' => by cases h'⟩
  injection h' with h'
  subst h'
  exact ⟨h, hc⟩
theorem Oc.mono {α : Type} {A : Nat → α → Prop} {n m : Nat} {a : Rs α} (h : Oc T E A n a) (hn : n ≤ m) : Oc T E A m a := ⟨h.1, fun x r hx => by
  obtain ⟨k, h1, h2, h3⟩ := h.2 x r hx
  exact ⟨k, h1, by omega, h3⟩⟩
theorem Oc.bnd {α β : Type} {A : Nat → α → Prop} {B : Nat → β → Prop} {n m : Nat} {a : Rs α} {f : α × List Tk → Rs β} (h : Oc T E A n a) (hk : ∀ x r k, A k x → k + r.length ≤ n → All T r → Oc T E B m (f (x, r))) : Oc T E B m (Go.Proofs.YteankdaegdhfiaaGreatDoor.bnd a f) := by
  cases ha : a with
  | inl er =>
    refine ⟨fun e h' => ?_, fun y s h' => by cases h'⟩
    injection h' with h'
    subst h'
    exact h.1 er ha
  | inr x =>
    obtain ⟨x, r⟩ := x
    obtain ⟨k, h1, h2, h3⟩ := h.2 x r ha
    exact hk x r k h1 h2 h3
theorem hd_mem {l : List Tk} (h : (hd q l).k ≠ 0) : ∃ t l', l = t :: l' := by
  cases l with
  | nil => exact absurd rfl h
  | cons t l' => exact ⟨t, l', rfl⟩
theorem sg_kt {t : Tk} {s : Str} (h : sg t s = true) : t.k = 5 ∧ t.t = s := by
  unfold sg at h
  simpa using h
theorem hd_sg {l : List Tk} {s : Str} (h : sg (hd q l) s = true) : ∃ t l', l = t :: l' ∧ t.k = 5 ∧ t.t = s := by
  obtain ⟨h1, h2⟩ := sg_kt h
  obtain ⟨t, l', rfl⟩ := hd_mem (q := q) (l := l) (by rw [h1]; decide)
  exact ⟨t, l', rfl, h1, h2⟩
def Pl (T : Tk → Prop) (E : Int → Prop) (q : Int) : Prop := (∀ t, T t → E t.p) ∧ E q
theorem Pl.hd (hE : Pl T E q) {l : List Tk} (h : All T l) : E (hd q l).p := by
  cases l with
  | nil => exact hE.2
  | cons t l => exact hE.1 t (h t (by simp))
def In {α : Type} (T : Tk → Prop) (E : Int → Prop) (A : Nat → α → Prop) (f : List Tk → Rs α) : Prop := ∀ l, All T l → Oc T E A l.length (f l)
theorem in_nmI (hE : Pl T E q) : In T E (fun k n => 1 ≤ k ∧ ∃ t, T t ∧ t.k = 1 ∧ n = t.t) (nmI q) := by
  intro l h
  unfold nmI
  split
  · rename_i hk
    obtain ⟨t, l, rfl⟩ := hd_mem (q := q) (l := l) (by rw [hk]; decide)
    exact Oc.good (k := 1) ⟨Nat.le_refl _, t, h t (by simp), hk, rfl⟩ (by simp; omega) h.tail
  · exact Oc.badly (hE.hd h) (Or.inl rfl)
theorem in_mtI (hE : Pl T E q) : In T E (fun k n => 1 ≤ k ∧ MO T n) (mtI q) := by
  intro l h
  unfold mtI
  split
  · exact Oc.badly (hE.hd h) (Or.inl rfl)
  · rename_i h1
    split
    · exact Oc.badly (hE.hd h.tail) (Or.inl rfl)
    · rename_i h2
      split
      · exact Oc.badly (hE.hd h.tail.tail) (Or.inl rfl)
      · rename_i h3
        rw [Decidable.not_not] at h1 h3
        rw [not_or, Decidable.not_not] at h2
        obtain ⟨a, l, rfl⟩ := hd_mem (q := q) (l := l) (by rw [h1]; decide)
        obtain ⟨b, l, rfl⟩ := hd_mem (q := q) (l := l) (by rw [show (hd q l).k = 5 from h2.1]; decide)
        obtain ⟨c, l, rfl⟩ := hd_mem (q := q) (l := l) (by rw [show (hd q l).k = 4 from h3]; decide)
        exact Oc.good (k := 1) ⟨Nat.le_refl _, Or.inr ⟨a, b, c, h a (by simp), h b (by simp), h c (by simp), h1, h2.1, h2.2, h3, rfl⟩⟩ (by simp; omega) h.tail.tail.tail
theorem in_lsF {α : Type} {M : α → Prop} {item : List Tk → Rs α} {cl : Str} {few : List α → Bool} (hE : Pl T E q) (hi : In T E (fun k n => 1 ≤ k ∧ M n) item) : ∀ (f : Nat) (first : Bool) (acc : List α) (l : List Tk), (∀ x ∈ acc, M x) → All T l → Oc T E (fun _ ns => (∀ x ∈ ns, M x) ∧ few ns = true) l.length (lsF q cl item few f first acc l)
  | 0, _, _, l, _, h => Oc.badly (hE.hd h) (Or.inl rfl)
  | f + 1, first, acc, l, ha, h => by
    rw [lsF]
    split
    · split
      · rename_i hf
        exact Oc.good (k := 0) ⟨ha, hf⟩ (by simp) h.tail
      · exact Oc.badly (hE.hd h) (Or.inr (Or.inr rfl))
    · split
      · exact Oc.badly (hE.hd h) (Or.inl rfl)
      · have hr : All T (if first = true then l else l.tail) := by
          cases first
          · exact h.tail
          · exact h
        have hl : (if first = true then l else l.tail).length ≤ l.length := by cases first <;> simp
        refine ((hi _ hr).mono hl).bnd ?_
        intro x r k hk hkn hr'
        refine (in_lsF hE hi f false (acc ++ [x]) r ?_ hr').mono (by omega)
        intro y hy
        rcases List.mem_append.1 hy with hy | hy
        · exact ha y hy
        · simp at hy
          subst hy
          exact hk.2
theorem in_nmP (hE : Pl T E q) : In T E (fun _ ns => (∀ n ∈ ns, ∃ t, T t ∧ t.k = 1 ∧ n = t.t) ∧ fewN ns = true) (nmP q) := by
  intro l h
  unfold nmP
  split
  · exact (in_lsF hE (in_nmI hE) _ _ _ _ (fun x hx => by simp at hx) h.tail).mono (by simp)
  · exact Oc.badly (hE.hd h) (Or.inl rfl)
theorem in_brP (hE : Pl T E q) (a : List Mt) (ha : ∀ x ∈ a, MO T x) (hl : a.length ≤ 8) : In T E (fun _ ns => (∀ x ∈ ns, MO T x) ∧ fewM ns = true) (brP q a) := by
  intro l h
  unfold brP
  split
  · exact (in_lsF hE (in_mtI hE) _ _ _ _ ha h.tail).mono (by simp)
  · exact Oc.good (k := 0) ⟨ha, by unfold fewM; simpa using hl⟩ (by omega) h
theorem in_wnP (hE : Pl T E q) : In T E (fun _ r => r = 0 ∨ ∃ t, T t ∧ t.k = 3 ∧ r = t.d) (wnP q) := by
  intro l h
  unfold wnP
  split
  · exact Oc.good (k := 0) (Or.inl rfl) (by omega) h
  · split
    · exact Oc.badly (hE.hd h.tail) (Or.inl rfl)
    · rename_i h3
      split
      · exact Oc.badly (hE.hd h.tail.tail) (Or.inl rfl)
      · rw [Decidable.not_not] at h3
        obtain ⟨a, l', e⟩ := hd_mem (q := q) (l := l.tail) (by rw [h3]; decide)
        refine Oc.good (k := 0) (Or.inr ⟨a, h.tail a (by rw [e]; simp), ?_, ?_⟩) (by simp; omega) h.tail.tail.tail
        · rw [e] at h3; exact h3
        · rw [e]; rfl
variable {X : Nat → Ex → Prop}
theorem in_selP (hE : Pl T E q) (hX : RdOK T X) {l : List Tk} (h : All T l) (hl : (hd q l).k = 1 ∨ sg (hd q l) [123] = true) : Oc T E X l.length (selP q l) := by
  unfold selP
  have hA : (∀ x ∈ selA q l, MO T x) ∧ (selA q l).length ≤ 8 ∧ All T (selL q l) ∧ (selL q l).length ≤ l.length := by
    unfold selA selL
    split
    · rename_i hk
      obtain ⟨t, l, rfl⟩ := hd_mem (q := q) (l := l) (by rw [hk]; decide)
      refine ⟨fun x hx => ?_, by simp, h.tail, by simp⟩
      simp at hx
      exact Or.inl ⟨t, h t (by simp), hk, hx⟩
    · exact ⟨fun x hx => by simp at hx, by simp, h, Nat.le_refl _⟩
  have hb : Oc T E (fun _ ns => (∀ x ∈ ns, MO T x) ∧ fewM ns = true) (l.length - 1) (brP q (selA q l) (selL q l)) := by
    by_cases hk : (hd q l).k = 1
    · refine (in_brP hE _ hA.1 hA.2.1 _ hA.2.2.1).mono ?_
      unfold selL
      rw [if_pos hk]
      simp
    · have hs := hl.resolve_left hk
      unfold brP
      have e : selL q l = l := by unfold selL; rw [if_neg hk]
      rw [e, if_pos hs]
      exact (in_lsF hE (in_mtI hE) _ _ _ _ hA.1 h.tail).mono (by simp)
  refine hb.bnd ?_
  intro a r k ha hk hr
  have h0 : 0 < l.length := by
    cases l with
    | nil => rcases hl with hl | hl <;> cases hl
    | cons x l => simp
  refine (in_wnP hE r hr).bnd ?_
  intro b r' k' hb hk' hr'
  refine Oc.good (k := 1) (hX.sel _ _ _ ha.1 ?_ hb) (by dsimp only; omega) hr'
  have := ha.2
  unfold fewM at this
  simpa using this
theorem in_modP (hE : Pl T E q) : In T E (fun _ m => GO T m.on m.ig m.ns) (modP q) := by
  intro l h
  unfold modP
  split
  · exact Oc.good (k := 0) (Or.inl ⟨rfl, rfl, rfl⟩) (by omega) h
  · rename_i hm
    refine ((in_nmP hE _ h.tail).mono (m := l.length) (by simp)).bnd ?_
    intro a r k ha hk hr
    refine Oc.good (k := 0) (Or.inr ⟨?_, ha.2, ha.1⟩) (by dsimp only; omega) hr
    rw [Bool.not_eq_false] at hm
    unfold hasMod at hm
    simp only [Bool.and_eq_true] at hm
    have h2 := hm.1.2
    unfold isModB at h2
    rw [Bool.or_eq_true, beq_iff_eq, beq_iff_eq] at h2
    show ((hd q l).t == wOn) ≠ ((hd q l).t == wIgn)
    rcases h2 with e | e <;> rw [e] <;> decide
theorem in_chF (hE : Pl T E q) (hX : RdOK T X) {lev : Int} (hl1 : 1 ≤ lev) {u : List Tk → Rs Ex} (hu : In T E X u) : ∀ (f n : Nat) (e : Ex) (l : List Tk), X n e → All T l → Oc T E X (n + l.length) (chF q lev u f e l)
  | 0, n, e, l, he, h => Oc.good (k := n) he (by omega) h
  | f + 1, n, e, l, he, h => by
    rw [chF]
    split
    · exact Oc.good (k := n) he (by omega) h
    · rename_i ho
      rw [Bool.not_eq_false] at ho
      unfold isOp at ho
      rw [Bool.and_eq_true, beq_iff_eq, beq_iff_eq] at ho
      obtain ⟨t, l, rfl⟩ := hd_mem (q := q) (l := l) (by rw [ho.1]; decide)
      have hj : Oc T E X (n + (t :: l).length) (joinP q u e (t :: l)) := by
        unfold joinP
        refine (in_modP hE _ h.tail).bnd ?_
        intro a r k ha hk hr
        refine (hu _ hr).bnd ?_
        intro b r' k' hb hk' hr'
        exact Oc.good (k := n + k' + 1) (hX.bin n k' t _ _ _ _ _ (h t (by simp)) ho.1 (by rw [show lv t.t = lev from ho.2]; exact hl1) ha he hb) (by simp at hk ⊢; omega) hr'
      refine hj.bnd ?_
      intro b r k hb hk hr
      exact (in_chF hE hX hl1 hu f k b r hb hr).mono hk
theorem in_chP (hE : Pl T E q) (hX : RdOK T X) {lev : Int} (hl1 : 1 ≤ lev) {u : List Tk → Rs Ex} (hu : In T E X u) : In T E X (chP q lev u) := by
  intro l h
  unfold chP
  refine (hu _ h).bnd ?_
  intro b r k hb hk hr
  exact (in_chF hE hX hl1 hu _ k b r hb hr).mono hk
theorem in_cmp (hE : Pl T E q) (hX : RdOK T X) {u : List Tk → Rs Ex} (hu : In T E X u) : In T E X (cmpP q u) := in_chP hE hX (by decide) (in_chP hE hX (by decide) (in_chP hE hX (by decide) hu))
theorem in_brk (hE : Pl T E q) {c : List Tk → Rs Ex} (hc : In T E X c) : In T E X (brkP q c) := by
  intro l h
  unfold brkP
  split
  · exact Oc.badly (hE.hd h) (Or.inl rfl)
  · refine ((hc _ h.tail).mono (m := l.length) (by simp)).bnd ?_
    intro b r k hb hk hr
    show Oc T E X _ (if sg (hd q r) [41] = true then .inr (b, r.tail) else .inl (bad q r 71))
    split
    · exact Oc.good (k := k) hb (by simp; omega) hr.tail
    · exact Oc.badly (hE.hd hr) (Or.inl rfl)
theorem in_grp (hE : Pl T E q) {l : List Tk} (h : All T l) (hg : (hd q l).k = 1 → isGrpB (hd q l).t = true) : Oc T E (fun _ m => GO T m.on m.ig m.ns) l.length (grpP q l) := by
  unfold grpP
  split
  · exact Oc.good (k := 0) (Or.inl ⟨rfl, rfl, rfl⟩) (by omega) h
  · rename_i hk
    rw [Decidable.not_not] at hk
    refine ((in_nmP hE _ h.tail).mono (m := l.length) (by simp)).bnd ?_
    intro a r k ha hk' hr
    refine Oc.good (k := 0) (Or.inr ⟨?_, ha.2, ha.1⟩) (by dsimp only; omega) hr
    have h2 := hg hk
    unfold isGrpB at h2
    rw [Bool.or_eq_true, beq_iff_eq, beq_iff_eq] at h2
    show ((hd q l).t == wBy) ≠ ((hd q l).t == wWo)
    rcases h2 with e | e <;> rw [e] <;> decide
theorem in_nam (hE : Pl T E q) (hX : RdOK T X) {c : List Tk → Rs Ex} (hc : In T E X c) {l : List Tk} (h : All T l) (hk : (hd q l).k = 1) : Oc T E X l.length (namP q c l) := by
  obtain ⟨t, l, rfl⟩ := hd_mem (q := q) (l := l) (by rw [hk]; decide)
  have hk : t.k = 1 := hk
  unfold namP
  split
  · rename_i ha
    rw [Bool.and_eq_true, Bool.or_eq_true, Bool.and_eq_true] at ha
    unfold aggP
    refine (in_grp hE h.tail ?_).bnd ?_
    · intro hk1
      rcases ha.2 with hs | hs
      · rw [(sg_kt hs).1] at hk1
        cases hk1
      · exact hs.2
    · intro m r k hm hkn hr
      refine (in_brk hE hc _ hr).bnd ?_
      intro b r' k' hb hk' hr'
      exact Oc.good (k := k' + 1) (hX.agg k' t _ _ _ _ (h t (by simp)) ha.1 hm hb) (by simp at hkn ⊢; omega) hr'
  · rename_i ha
    split
    · exact Oc.badly (hE.hd h) (Or.inl rfl)
    · rename_i hm
      split
      · rename_i ho
        have h1 : isAggB t.t = false := by
          cases hA : isAggB t.t with
          | false => rfl
          | true =>
            exfalso
            apply ha
            rw [ho, Bool.true_or, Bool.and_true]
            exact hA
        have h2 : isModB t.t = false := by
          cases hA : isModB t.t with
          | false => rfl
          | true =>
            exfalso
            apply hm
            rw [ho, Bool.and_true]
            exact hA
        unfold callP
        refine (in_brk hE hc _ h.tail).bnd ?_
        intro b r k hb hkn hr
        exact Oc.good (k := k + 1) (hX.call k t _ (h t (by simp)) hk h1 h2 hb) (by simp at hkn ⊢; omega) hr
      · exact in_selP hE hX h (Or.inl hk)
theorem in_prm (hE : Pl T E q) (hX : RdOK T X) {c : List Tk → Rs Ex} (hc : In T E X c) : In T E X (prmP q c) := by
  intro l h
  unfold prmP
  split
  · rename_i hk
    obtain ⟨t, l, rfl⟩ := hd_mem (q := q) (l := l) (by rw [hk]; decide)
    exact Oc.good (k := 1) (hX.num t (h t (by simp)) hk) (by simp; omega) h.tail
  · split
    · rename_i hk
      exact in_nam hE hX hc h hk
    · split
      · exact in_brk hE hc _ h
      · split
        · rename_i hs
          exact in_selP hE hX h (Or.inr hs)
        · exact Oc.badly (hE.hd h) (Or.inl rfl)
theorem in_un (hE : Pl T E q) (hX : RdOK T X) {n c : List Tk → Rs Ex} (hn : In T E X n) (hc : In T E X c) : In T E X (unP q n c) := by
  intro l h
  unfold unP
  split
  · exact in_prm hE hX hc l h
  · rename_i hs
    rw [Bool.not_eq_false] at hs
    obtain ⟨t, l, rfl, _, _⟩ := hd_sg hs
    refine (hn _ h.tail).bnd ?_
    intro b r k hb hkn hr
    exact Oc.good (k := k + 1) (hX.neg k t _ (h t (by simp)) hb) (by simp at hkn ⊢; omega) hr
theorem in_deep (hE : Pl T E q) : In T E X (deep q) := fun _ h => Oc.badly (hE.hd h) (Or.inr (Or.inl rfl))
theorem in_unD (hE : Pl T E q) (hX : RdOK T X) : ∀ d, In T E X (unD q d)
  | 0 => in_un hE hX (in_deep hE) (in_deep hE)
  | d + 1 => in_un hE hX (in_unD hE hX d) (in_cmp hE hX (in_unD hE hX d))
/-- All that is read of whatever signs. -/
theorem rd_all (hE : ∀ t, T t → E t.p) (h0 : E 0) (hX : RdOK T X) {l : List Tk} (h : All T l) : (∀ er, rdP l = .inl er → E er.1 ∧ (er.2 = 71 ∨ er.2 = 72 ∨ er.2 = 32)) ∧ ∀ e, rdP l = .inr e → ∃ k, X k e ∧ k ≤ l.length := by
  have hq : E (endP l) := by
    unfold endP
    cases hg : l.getLast? with
    | none => exact h0
    | some t => exact hE t (h t (List.mem_of_getLast? hg))
  have hE' : Pl T E (endP l) := ⟨hE, hq⟩
  have hc := in_cmp hE' hX (in_unD hE' hX 15) l h
  unfold rdP whP
  cases ha : cmpP (endP l) (unD (endP l) 15) l with
  | inl er =>
    rw [ha] at hc
    refine ⟨fun e h' => ?_, fun e h' => by cases h'⟩
    injection h' with h'
    subst h'
    exact hc.1 er rfl
  | inr x =>
    obtain ⟨x, r⟩ := x
    rw [ha] at hc
    obtain ⟨k, h1, h2, h3⟩ := hc.2 x r rfl
    show (∀ er, (if (hd (endP l) r).k = 0 then .inr x else .inl (bad (endP l) r 71)) = Sum.inl er → _) ∧ ∀ e, (if (hd (endP l) r).k = 0 then .inr x else .inl (bad (endP l) r 71)) = Sum.inr e → _
    split
    · refine ⟨fun e h' => (by cases h'), fun e h' => ?_⟩
      injection h' with h'
      subst h'
      exact ⟨k, h1, by omega⟩
    · refine ⟨fun e h' => ?_, fun e h' => by cases h'⟩
      injection h' with h'
      subst h'
      exact ⟨hE'.hd h3, Or.inl rfl⟩
end
end Go.Proofs.YteankdaegdhfiaaGreatDoor
/- What is read is small enough; its errors, their places: plain facts. -/
namespace Go.Proofs.YteankdaegdhfiaaGreatDoor.Tf
open Go.RowKit

def FT (t : Tk) : Prop := 0 ≤ t.p ∧ t.t.length ≤ 1000000 ∧ -9223372036854775808 ≤ t.n ∧ t.n ≤ 9223372036854775807
theorem mo_ft {x : Mt} (h : MO FT x) : x.name.length ≤ 1000000 ∧ x.text.length ≤ 1000000 := by
  rcases h with ⟨t, ht, _, rfl⟩ | ⟨a, b, c, ha, _, hc, _, _, _, _, rfl⟩
  · exact ⟨by show nmL.length ≤ _; decide, ht.2.1⟩
  · exact ⟨ha.2.1, hc.2.1⟩
theorem once_len {ns : List Str} (h : fewN ns = true) : ns.length ≤ 8 := by
  unfold fewN at h
  rw [Bool.and_eq_true, decide_eq_true_eq] at h
  exact h.1
theorem go_ft {b c : Bool} {ns : List Str} (h : GO FT b c ns) : ns.length ≤ 8 ∧ ∀ x ∈ ns, x.length ≤ 1000000 := by
  rcases h with ⟨_, _, rfl⟩ | ⟨_, hf, hn⟩
  · exact ⟨by simp, fun x hx => by simp at hx⟩
  · refine ⟨once_len hf, fun x hx => ?_⟩
    obtain ⟨t, ht, _, rfl⟩ := hn x hx
    exact ht.2.1
theorem fine_ok : RdOK FT (fun n e => smB e = true ∧ sz e ≤ n) := {
  num := fun t ht _ => by
    unfold eNum
    rw [smB_mk, smBL, sz_mk, szL]
    obtain ⟨_, h2, h3, h4⟩ := ht
    simp [h3, h4]
  sel := fun p m r hm hl _ => by
    unfold eSel
    rw [smB_mk, smBL, sz_mk, szL]
    have h1 : m.all (fun x => decide (x.name.length ≤ 1000000) && decide (x.text.length ≤ 1000000)) = true := by
      rw [List.all_eq_true]
      intro x hx
      have := mo_ft (hm x hx)
      simp [this.1, this.2]
    have h2 : m.length ≤ 1000000 := by omega
    simp [h1, h2]
  call := fun n t a ht _ _ _ ha => by
    unfold eCall
    rw [smB_mk, smBL, smBL, sz_mk, szL, szL, ha.1]
    simp [ht.2.1]
    omega
  agg := fun n t b1 b2 ns a ht _ hg ha => by
    unfold eAgg
    rw [smB_mk, smBL, smBL, sz_mk, szL, szL, ha.1]
    obtain ⟨g1, g2⟩ := go_ft hg
    have h1 : ns.all (fun x => decide (x.length ≤ 1000000)) = true := by
      rw [List.all_eq_true]
      intro x hx
      simp [g2 x hx]
    have h2 : ns.length ≤ 1000000 := by omega
    simp [ht.2.1, h1, h2]
    omega
  bin := fun n m t b3 b4 ns a b ht _ _ hg ha hb => by
    unfold eBin
    rw [smB_mk, smBL, smBL, smBL, sz_mk, szL, szL, szL, ha.1, hb.1]
    obtain ⟨g1, g2⟩ := go_ft hg
    have h1 : ns.all (fun x => decide (x.length ≤ 1000000)) = true := by
      rw [List.all_eq_true]
      intro x hx
      simp [g2 x hx]
    have h2 : ns.length ≤ 1000000 := by omega
    simp [ht.2.1, h1, h2]
    omega
  neg := fun n t a ht ha => by
    unfold eNeg
    rw [smB_mk, smBL, smBL, sz_mk, szL, szL, ha.1]
    simp
    omega }
theorem okt_ft {y : Tk} {p : Int} (h : Okt y) (hp : 0 ≤ p) : FT (y.put p) := by
  rcases h with ⟨s, hs, rfl⟩ | ⟨v, h1, h2, rfl⟩ | ⟨n, h1, h2, rfl⟩ | ⟨s, h1, _, rfl⟩ | ⟨s, hs, rfl⟩
  · have := name_len hs
    exact ⟨hp, by show s.length ≤ _; omega, (by decide : (-9223372036854775808 : Int) ≤ 0), (by decide : (0 : Int) ≤ 9223372036854775807)⟩
  · exact ⟨hp, by simp [Tk.put, tNum], by show _ ≤ v; omega, h2⟩
  · exact ⟨hp, by simp [Tk.put, tDur], (by decide : (-9223372036854775808 : Int) ≤ 0), (by decide : (0 : Int) ≤ 9223372036854775807)⟩
  · exact ⟨hp, by show s.length ≤ _; omega, (by decide : (-9223372036854775808 : Int) ≤ 0), (by decide : (0 : Int) ≤ 9223372036854775807)⟩
  · have := sign_len hs
    exact ⟨hp, by show s.length ≤ _; omega, (by decide : (-9223372036854775808 : Int) ≤ 0), (by decide : (0 : Int) ≤ 9223372036854775807)⟩
theorem okt_k {y : Tk} (h : Okt y) : y.k ≠ 0 := by
  rcases h with ⟨s, _, rfl⟩ | ⟨v, _, _, rfl⟩ | ⟨n, _, _, rfl⟩ | ⟨s, _, _, rfl⟩ | ⟨s, _, rfl⟩ <;> exact fun h => by cases h
theorem sc_toks {s : Str} {l : List Tk} (h : sc s = .inr l) : l.length ≤ s.length ∧ ∀ x ∈ l, ∃ y p, Okt y ∧ x = y.put p ∧ 0 ≤ p := by
  unfold sc at h
  obtain ⟨g1, g2, _⟩ := (scanG_facts s.length (lead s).length (lead s) (Nat.le_refl _) (lead_le s)).2 l h
  have := lead_le s
  refine ⟨by omega, fun x hx => ?_⟩
  obtain ⟨y, p, h1, h2, h3, _⟩ := g2 x hx
  exact ⟨y, p, h1, h2, h3⟩
/-- A text that can be read: its signs, and what is read. -/
theorem ps_good {s : Str} (h : psE s = 0) : s.length ≤ 600 ∧ ∃ l e, sc s = .inr l ∧ rdP (l ++ [tEnd s.length]) = .inr e ∧ psX s = e ∧ scE s = 0 ∧ scL s = l ++ [tEnd s.length] := by
  unfold psE at h
  by_cases he : scE s = 0
  · rw [if_pos he] at h
    have hb : s.length ≤ 600 := by
      by_cases hb : 600 < s.length
      · rw [(sc_big hb).1] at he; cases he
      · omega
    refine ⟨hb, ?_⟩
    rcases sc_cases hb with ⟨p, _, e2, _, _⟩ | ⟨l, e1, _, _, e4⟩
    · rw [e2] at he; cases he
    · rw [e4] at h
      unfold rdE at h
      cases hr : rdP (l ++ [tEnd s.length]) with
      | inl er =>
        rw [hr] at h
        obtain ⟨h1, _⟩ := rd_all (T := fun _ => True) (E := fun _ => True) (X := fun _ _ => True) (fun _ _ => trivial) trivial ⟨fun _ _ _ => trivial, fun _ _ _ _ _ _ => trivial, fun _ _ _ _ _ _ _ _ => trivial, fun _ _ _ _ _ _ _ _ _ _ => trivial, fun _ _ _ _ _ _ _ _ _ _ _ _ _ _ => trivial, fun _ _ _ _ _ => trivial⟩ (l := l ++ [tEnd s.length]) (fun _ _ => trivial)
        have h : er.2 = 0 := h
        have := (h1 er hr).2
        omega
      | inr e => exact ⟨l, e, e1, hr, by unfold psX rdX; rw [if_pos he, e4, hr], he, e4⟩
  · rw [if_neg he] at h
    exact absurd h he
theorem scL_ft (s : Str) : All FT (scL s) := by
  by_cases hb : 600 < s.length
  · rw [(sc_big hb).2.2]
    intro t ht
    simp at ht
  · rcases sc_cases (s := s) (by omega) with ⟨p, _, _, _, e4⟩ | ⟨l, e1, _, _, e4⟩
    · rw [e4]
      intro t ht
      simp at ht
    · rw [e4]
      intro t ht
      rcases List.mem_append.1 ht with ht | ht
      · obtain ⟨y, p, h1, rfl, h3⟩ := (sc_toks e1).2 t ht
        exact okt_ft h1 h3
      · simp at ht
        subst ht
        exact ⟨by show (0 : Int) ≤ (s.length : Nat); omega, by simp [tEnd], by show (-9223372036854775808 : Int) ≤ 0; decide, by show (0 : Int) ≤ 9223372036854775807; decide⟩
/-- What is read of whatever text is small enough, and its place is none below nought. -/
theorem ps_fine (s : Str) : smB (psX s) = true ∧ sz (psX s) ≤ s.length + 1 ∧ 0 ≤ psA s := by
  have h0 : smB ex0 = true ∧ sz ex0 ≤ s.length + 1 := by
    unfold ex0
    rw [smB_mk, smBL, sz_mk, szL]
    simp
  unfold psX psA
  by_cases he : scE s = 0
  · rw [if_pos he, if_pos he]
    obtain ⟨r1, r2⟩ := rd_all (T := FT) (E := fun p => 0 ≤ p) (fun t ht => ht.1) (by decide) fine_ok (scL_ft s)
    have hl := (scL_facts s).1
    unfold rdX rdA
    cases hr : rdP (scL s) with
    | inl er => exact ⟨h0.1, h0.2, (r1 er hr).1⟩
    | inr e =>
      obtain ⟨k, ⟨a, b⟩, c⟩ := r2 e hr
      exact ⟨a, by show sz e ≤ _; omega, by show (0 : Int) ≤ 0; decide⟩
  · rw [if_neg he, if_neg he]
    exact ⟨h0.1, h0.2, (scL_facts s).2.2.1⟩
end Go.Proofs.YteankdaegdhfiaaGreatDoor.Tf
/- A sum of rates, each of its own range: what it is read as. -/
namespace Go.Proofs.YteankdaegdhfiaaGreatDoor
open Go.RowKit

/-- The digits of a number of 0 to 100; none of 0. -/
def dG (n : Nat) : Str := if n = 0 then [] else if n < 10 then [UInt8.ofNat (48 + n)] else if n < 100 then [UInt8.ofNat (48 + n / 10), UInt8.ofNat (48 + n % 10)] else [UInt8.ofNat (48 + n / 100), UInt8.ofNat (48 + n / 10 % 10), UInt8.ofNat (48 + n % 10)]
theorem dG_step : ∀ n, n < 101 → n ≠ 0 → dG n = dG (n / 10) ++ [UInt8.ofNat (48 + n % 10)] := by decide +kernel
theorem dG_len (n : Nat) : (dG n).length ≤ 3 := by
  unfold dG
  repeat' split
  all_goals simp
def hX (d : Nat) : Str := [114, 97, 116, 101, 40, 120, 91] ++ dG d ++ [116, 93, 41]
def hL (d : Nat) : Int := if d < 10 then 2 else if d < 100 then 3 else 4
def hTk (d : Nat) : List Tk := [⟨1, 2, [114, 97, 116, 101], false, 0, 0⟩, ⟨5, 6, [40], false, 0, 0⟩, ⟨1, 7, [120], false, 0, 0⟩, ⟨5, 8, [91], false, 0, 0⟩, ⟨3, 9, [], false, 0, d⟩, ⟨5, 9 + hL d, [93], false, 0, 0⟩, ⟨5, 10 + hL d, [41], false, 0, 0⟩]
def hE (d : Nat) (N : Int) : Ex := eCall (2 + N) [114, 97, 116, 101] (eSel (7 + N) [⟨nmL, 1, [120]⟩] d)
def plusT (p : Int) : Tk := ⟨5, p, [43], false, 0, 0⟩
/-- Of each. -/
def AllN (P : Nat → Prop) : Nat → Prop
  | 0 => True
  | n + 1 => P (n + 1) ∧ AllN P n
theorem AllN.at {P : Nat → Prop} : ∀ {n : Nat}, AllN P n → ∀ d, 1 ≤ d → d ≤ n → P d
  | 0, _, d, h1, h2 => by omega
  | n + 1, h, d, h1, h2 => by
    by_cases e : d = n + 1
    · rw [e]; exact h.1
    · exact AllN.at h.2 d h1 (by omega)
theorem AllN.cons {P : Nat → Prop} {n : Nat} (h : P (n + 1)) (t : AllN P n) : AllN P (n + 1) := ⟨h, t⟩
theorem h_sc : AllN (fun d => sc (43 :: 32 :: hX d) = .inr (plusT 0 :: hTk d)) 100 := by
  repeat (first | exact trivial | refine AllN.cons (by show _ = _; kernel_rfl) ?_)
theorem h_rdE (q N p : Int) (r : List Tk) : AllN (fun d => chP q 3 (unD q 15) ((hTk d).map (sh N) ++ ⟨0, p, [], false, 0, 0⟩ :: r) = .inr (hE d N, ⟨0, p, [], false, 0, 0⟩ :: r)) 100 := by
  repeat (first | exact trivial | refine AllN.cons (by show _ = _; kernel_rfl) ?_)
theorem h_modE (q N p : Int) (r : List Tk) : AllN (fun d => modP q ((hTk d).map (sh N) ++ ⟨0, p, [], false, 0, 0⟩ :: r) = .inr (⟨false, false, []⟩, (hTk d).map (sh N) ++ ⟨0, p, [], false, 0, 0⟩ :: r)) 100 := by
  repeat (first | exact trivial | refine AllN.cons (by show _ = _; kernel_rfl) ?_)
theorem h_rdP (q N p : Int) (r : List Tk) : AllN (fun d => chP q 3 (unD q 15) ((hTk d).map (sh N) ++ ⟨5, p, [43], false, 0, 0⟩ :: r) = .inr (hE d N, ⟨5, p, [43], false, 0, 0⟩ :: r)) 100 := by
  repeat (first | exact trivial | refine AllN.cons (by show _ = _; kernel_rfl) ?_)
theorem h_modP (q N p : Int) (r : List Tk) : AllN (fun d => modP q ((hTk d).map (sh N) ++ ⟨5, p, [43], false, 0, 0⟩ :: r) = .inr (⟨false, false, []⟩, (hTk d).map (sh N) ++ ⟨5, p, [43], false, 0, 0⟩ :: r)) 100 := by
  repeat (first | exact trivial | refine AllN.cons (by show _ = _; kernel_rfl) ?_)
theorem h_ty (N : Int) : AllN (fun d => evE tyG 4 (hE d N) = some (2, 0, 0)) 100 := by
  repeat (first | exact trivial | refine AllN.cons (by show _ = _; kernel_rfl) ?_)
theorem h_snd (N : Int) : AllN (fun d => evE sndG 4 (hE d N) = some true) 100 := by
  repeat (first | exact trivial | refine AllN.cons (by show _ = _; kernel_rfl) ?_)
theorem h_hz (d : Nat) (N : Int) : hzE (hE d N) = max (10 : Int) (max (d : Int) 10) := by
  rw [hzE_eq]
  show [hzE (eSel (7 + N) [⟨nmL, 1, [120]⟩] d)].foldl max (max 0 10) = _
  rw [hzE_eq]
  rfl
def hMx (a : Int) (d : Nat) : Int := max a (d : Int)
def FitD (l : List Nat) : Prop := ∀ d ∈ l, 1 ≤ d ∧ d ≤ 100
/-- Terms, one behind the other, each behind its sign. -/
def Hb : List Nat → List Tk → Prop
  | [], T => T = []
  | c :: l, T => ∃ p N r, T = plusT p :: ((hTk c).map (sh N) ++ r) ∧ Hb l r
theorem Hb.snoc (c : Nat) (p N : Int) : ∀ {l : List Nat} {T : List Tk}, Hb l T → Hb (l ++ [c]) (T ++ plusT p :: (hTk c).map (sh N))
  | [], T, h => by
    have h : T = [] := h
    subst h
    exact ⟨p, N, [], by simp, rfl⟩
  | d :: l, T, h => by
    obtain ⟨p', N', r, rfl, h⟩ := h
    exact ⟨p', N', r ++ plusT p :: (hTk c).map (sh N), by simp, Hb.snoc c p N h⟩
theorem Hb.head {l : List Nat} {T : List Tk} (h : Hb l T) : (l = [] ∧ T = []) ∨ ∃ p r, T = ⟨5, p, [43], false, 0, 0⟩ :: r := by
  cases l with
  | nil => exact Or.inl ⟨rfl, h⟩
  | cons c l =>
    obtain ⟨p, N, r, rfl, _⟩ := h
    exact Or.inr ⟨p, _, rfl⟩
theorem h_term (q N : Int) {d : Nat} (h1 : 1 ≤ d) (h2 : d ≤ 100) {l : List Nat} {T : List Tk} (h : Hb l T) (m : Int) :
    chP q 3 (unD q 15) ((hTk d).map (sh N) ++ (T ++ [⟨0, m, [], false, 0, 0⟩])) = .inr (hE d N, T ++ [⟨0, m, [], false, 0, 0⟩]) ∧ modP q ((hTk d).map (sh N) ++ (T ++ [⟨0, m, [], false, 0, 0⟩])) = .inr (⟨false, false, []⟩, (hTk d).map (sh N) ++ (T ++ [⟨0, m, [], false, 0, 0⟩])) := by
  rcases h.head with ⟨_, rfl⟩ | ⟨p, r, rfl⟩
  · exact ⟨(h_rdE q N m []).at d h1 h2, (h_modE q N m []).at d h1 h2⟩
  · rw [List.cons_append]
    generalize r ++ [(⟨0, m, [], false, 0, 0⟩ : Tk)] = R
    exact ⟨(h_rdP q N p R).at d h1 h2, (h_modP q N p R).at d h1 h2⟩
/-- A vector of numbers, sound, that looks back h ticks. -/
def Vc (e : Ex) (h : Int) : Prop := tyE e = (2, 0, 0) ∧ sndE e = true ∧ hzE e = h ∧ 10 ≤ h
theorem vc_bin (p : Int) {a b : Ex} {x y : Int} (ha : Vc a x) (hb : Vc b y) : Vc (eBin p [43] false false [] a b) (max x y) := by
  obtain ⟨a1, a2, a3, a4⟩ := ha
  obtain ⟨b1, b2, b3, b4⟩ := hb
  refine ⟨?_, ?_, ?_, by omega⟩
  · rw [tyE_eq]
    show tyG _ [tyE a, tyE b] = _
    rw [a1, b1]
    rfl
  · rw [sndE_eq]
    show (alk _ _ && _ && [a, b].all sndE) = true
    rw [show [a, b].all sndE = (sndE a && (sndE b && true)) from rfl, a2, b2]
    rfl
  · rw [hzE_eq]
    show [hzE a, hzE b].foldl max (max 0 10) = _
    rw [a3, b3]
    show max (max (max (0 : Int) 10) x) y = _
    omega
theorem vc_term (d : Nat) (N : Int) (h1 : 1 ≤ d) (h2 : d ≤ 100) : Vc (hE d N) (max (10 : Int) d) :=
  ⟨evE_ok tyG 4 _ _ ((h_ty N).at d h1 h2), evE_ok sndG 4 _ _ ((h_snd N).at d h1 h2), by rw [h_hz]; omega, by omega⟩
theorem h_chain (q m : Int) : ∀ (f : Nat) (l : List Nat) (e : Ex) (T : List Tk) (x : Int), Hb l T → FitD l → l.length < f → Vc e x → ∃ e', chF q 2 (chP q 3 (unD q 15)) f e (T ++ [⟨0, m, [], false, 0, 0⟩]) = .inr (e', [⟨0, m, [], false, 0, 0⟩]) ∧ Vc e' (l.foldl hMx x)
  | 0, l, e, T, _, _, _, hf, _ => by omega
  | f + 1, [], e, T, x, h, _, _, hv => by
    have h : T = [] := h
    subst h
    exact ⟨e, rfl, hv⟩
  | f + 1, c :: l, e, T, x, h, hfit, hf, hv => by
    obtain ⟨p, N, r, rfl, h⟩ := h
    obtain ⟨h1, h2⟩ := hfit c (by simp)
    obtain ⟨t1, t2⟩ := h_term q N h1 h2 h m
    have hv' : Vc (eBin p [43] false false [] e (hE c N)) (max x (c : Int)) := by
      have hb := vc_bin p hv (vc_term c N h1 h2)
      have := hv.2.2.2
      rw [show max x (max (10 : Int) (c : Int)) = max x (c : Int) by omega] at hb
      exact hb
    obtain ⟨e', g1, g2⟩ := h_chain q m f l (eBin p [43] false false [] e (hE c N)) r (max x (c : Int)) h (fun x hx => hfit x (by simp [hx])) (by simp at hf; omega) hv'
    refine ⟨e', ?_, g2⟩
    have ea : plusT p :: ((hTk c).map (sh N) ++ r) ++ [⟨0, m, [], false, 0, 0⟩] = plusT p :: ((hTk c).map (sh N) ++ (r ++ [⟨0, m, [], false, 0, 0⟩])) := by simp
    rw [ea, chF]
    show bnd (joinP q _ e (plusT p :: _)) _ = _
    unfold joinP
    rw [List.tail_cons, t2]
    show bnd (bnd (chP q 3 (unD q 15) _) _) _ = _
    rw [t1]
    exact g1
/-! ### The text -/
def hT : List Nat → Str
  | [] => [120]
  | c :: l => hT l ++ 32 :: (43 :: 32 :: hX c)
theorem hX_len (d : Nat) : (hX d).length ≤ 13 := by
  have := dG_len d
  unfold hX
  simp
  omega
theorem hT_len : ∀ l, (hT l).length ≤ 16 * l.length + 1
  | [] => by simp [hT]
  | c :: l => by
    have := hT_len l
    have := hX_len c
    rw [hT]
    simp
    omega
theorem hT_sc : ∀ l, FitD l → ∃ T, sc (hT l) = .inr (⟨1, 0, [120], false, 0, 0⟩ :: T) ∧ Hb l.reverse T
  | [], _ => ⟨[], by kernel_rfl, rfl⟩
  | c :: l, hf => by
    obtain ⟨T, h, hT'⟩ := hT_sc l (fun x hx => hf x (by simp [hx]))
    obtain ⟨h1, h2⟩ := hf c (by simp)
    have hj := sc_join (b := 43 :: 32 :: hX c) h
    rw [h_sc.at c h1 h2] at hj
    generalize ((hT l).length + 1 : Nat) = N at hj
    rw [hT, List.reverse_cons]
    exact ⟨T ++ plusT (0 + N) :: (hTk c).map (sh N), hj, hT'.snoc c _ _⟩
def hO : Ex := eSel 0 [⟨nmL, 1, [120]⟩] 0
theorem vc_one : Vc hO 10 := ⟨evE_ok tyG 4 _ _ (by kernel_rfl), evE_ok sndG 4 _ _ (by kernel_rfl), evE_ok hzG 4 _ _ (by kernel_rfl), by decide⟩
theorem h_one (q m : Int) {l : List Nat} {T : List Tk} (h : Hb l T) : chP q 3 (unD q 15) (⟨1, 0, [120], false, 0, 0⟩ :: (T ++ [⟨0, m, [], false, 0, 0⟩])) = .inr (hO, T ++ [⟨0, m, [], false, 0, 0⟩]) := by
  rcases h.head with ⟨_, rfl⟩ | ⟨p, r, rfl⟩
  · kernel_rfl
  · rw [List.cons_append]
    generalize r ++ [(⟨0, m, [], false, 0, 0⟩ : Tk)] = R
    kernel_rfl
theorem hb_len : ∀ {l : List Nat} {T : List Tk}, Hb l T → l.length ≤ T.length
  | [], T, _ => by simp
  | c :: l, T, h => by
    obtain ⟨p, N, r, rfl, h⟩ := h
    have := hb_len h
    simp
    omega
theorem h_whole (q m : Int) {l : List Nat} {T : List Tk} (h : Hb l T) (hf : FitD l) : ∃ e, whP q (⟨1, 0, [120], false, 0, 0⟩ :: (T ++ [⟨0, m, [], false, 0, 0⟩])) = .inr e ∧ Vc e (l.foldl hMx 10) := by
  have hTl : l.length < (T ++ [(⟨0, m, [], false, 0, 0⟩ : Tk)]).length + 1 := by
    have := hb_len h
    simp
    omega
  obtain ⟨e, g1, g2⟩ := h_chain q m _ l hO T 10 h hf hTl vc_one
  refine ⟨e, ?_, g2⟩
  unfold whP
  have h2 : chP q 2 (chP q 3 (unD q 15)) (⟨1, 0, [120], false, 0, 0⟩ :: (T ++ [⟨0, m, [], false, 0, 0⟩])) = .inr (e, [⟨0, m, [], false, 0, 0⟩]) := by
    show bnd (chP q 3 (unD q 15) _) _ = _
    rw [h_one q m h]
    exact g1
  have h1 : cmpP q (unD q 15) (⟨1, 0, [120], false, 0, 0⟩ :: (T ++ [⟨0, m, [], false, 0, 0⟩])) = .inr (e, [⟨0, m, [], false, 0, 0⟩]) := by
    show bnd (chP q 2 (chP q 3 (unD q 15)) _) _ = _
    rw [h2]
    rfl
  rw [h1]
  rfl
theorem hT_read {l : List Nat} (hf : FitD l) (hl : l.length ≤ 12) : psE (hT l) = 0 ∧ Vc (psX (hT l)) (l.reverse.foldl hMx 10) := by
  obtain ⟨T, hs, hT'⟩ := hT_sc l hf
  have hn := hT_len l
  obtain ⟨e1, _, e3⟩ := sc_ok (s := hT l) (by omega) hs
  obtain ⟨e, r1, r2⟩ := h_whole (endP (scL (hT l))) ((hT l).length : Nat) hT' (fun x hx => hf x (by simpa using hx))
  have r1 : rdP (scL (hT l)) = .inr e := by
    unfold rdP
    rw [← r1]
    generalize endP (scL (hT l)) = q
    rw [e3]
    rfl
  have q1 : psE (hT l) = 0 := by unfold psE rdE; rw [if_pos e1, r1]
  have q2 : psX (hT l) = e := by unfold psX rdX; rw [if_pos e1, r1]
  exact ⟨q1, by rw [q2]; exact r2⟩
/-- What the law wants of the text. -/
theorem hT_fine {l : List Nat} (hf : FitD l) (hl : l.length ≤ 12) : psE (hT l) = 0 ∧ Sm (psX (hT l)) ∧ ofE (psX (hT l)) = (2, 0, 0) ∧ hzE (psX (hT l)) = l.reverse.foldl hMx 10 := by
  obtain ⟨h1, h2, h3, h4, _⟩ := hT_read hf hl
  have hp := Tf.ps_fine (hT l)
  have := hT_len l
  exact ⟨h1, (smB_ok _ hp.1).1, ofE_of (isE_of rfl (by have := hp.2.1; omega) h3) h2, h4⟩
end Go.Proofs.YteankdaegdhfiaaGreatDoor
/- A rule looks back as far as its greatest range: the law TypesHorizons. -/
namespace Go.Proofs.YteankdaegdhfiaaGreatDoor
open Go.RowKit

theorem conv_dig (W : World) (k : Nat) (h : k ≤ 9) : (convert 63 9 (.slice (some ⟨W.heap.size, 0, none⟩) 1 1)).run Tryz.prog (W.alloc (.cells #[.int .u8 (48 + (k : Int))] 5)) = .ok (tx [UInt8.ofNat (48 + k)]) (W.alloc (.cells #[.int .u8 (48 + (k : Int))] 5)) := by
  refine run_convert_bytes_back (P := Tryz.prog) (W.alloc (.cells #[.int .u8 (48 + (k : Int))] 5)) 63 9 5 ⟨W.heap.size, 0, none⟩ 1 [UInt8.ofNat (48 + k)] Tryz.underlying63 Tryz.underlying5 Tryz.underlying9 (fun j hj => ?_)
  have hj : j < 1 := by simpa using hj
  have e : (UInt8.ofNat (48 + k)).toNat = 48 + k := by
    rw [UInt8.toNat_ofNat']
    omega
  rw [Lib.add_plain, cell_at (heap_new W _)]
  match j, hj with
  | 0, _ =>
    show some (Value.int .u8 (48 + (k : Int))) = some (.int .u8 ((UInt8.ofNat (48 + k)).toNat : Int))
    rw [e]
    congr 2
def cdH (b : UInt8) : Nat := b.toNat % 100 + 1
def dsH (l : List UInt8) (j : Nat) : List Nat := ((l.take j).map cdH).reverse
def hmH (l : List UInt8) (j : Nat) : Int := ((l.take j).map cdH).foldl hMx 10
theorem dsH_step (l : List UInt8) {j : Nat} (h : j < l.length) : dsH l (j + 1) = cdH (l.getD j 0) :: dsH l j := by
  unfold dsH
  rw [List.take_succ_eq_append_getElem h, List.map_append, List.reverse_append, List.getD, List.getElem?_eq_getElem h]
  rfl
theorem hmH_step (l : List UInt8) {j : Nat} (h : j < l.length) : hmH l (j + 1) = max (hmH l j) (cdH (l.getD j 0) : Nat) := by
  unfold hmH
  rw [List.take_succ_eq_append_getElem h, List.map_append, List.foldl_append, List.getD, List.getElem?_eq_getElem h]
  rfl
theorem dsH_fit (l : List UInt8) (j : Nat) : FitD (dsH l j) := by
  intro d hd
  unfold dsH at hd
  rw [List.mem_reverse] at hd
  obtain ⟨b, _, rfl⟩ := List.mem_map.1 hd
  unfold cdH
  omega
theorem dsH_len (l : List UInt8) (j : Nat) : (dsH l j).length ≤ j := by
  unfold dsH
  simp
  omega
theorem hmH_in (l : List UInt8) : ∀ j, 10 ≤ hmH l j ∧ hmH l j ≤ 100
  | 0 => by unfold hmH; simp
  | j + 1 => by
    have ih := hmH_in l j
    by_cases h : j < l.length
    · rw [hmH_step l h]
      unfold cdH
      omega
    · have e : hmH l (j + 1) = hmH l j := by unfold hmH; rw [List.take_of_length_le (by omega), List.take_of_length_le (by omega)]
      rw [e]
      exact ih
theorem dsH_hm (l : List UInt8) (j : Nat) : (dsH l j).reverse.foldl hMx 10 = hmH l j := by
  unfold dsH hmH
  rw [List.reverse_reverse]
/-- A load that stands under a guard, where the guard lets it. -/
theorem wp_get_on {w : World} {ops : Array Oper} {rest : List Oper} {o : Oper} {a : Act} {Q : Exit → Act → World → Prop} (hgd : Region.wanted o (yielded ops a.tmps) = true) (ty : TypeId) (x : Operand) (ho : o.op = .load ty x) (g : Nat) (cs : Array Value) (t : TypeId)
    (hx : a.eval x = .pointer (some ⟨g, 0, none⟩)) (hold : w.heap[g]? = some (.cells cs t)) (d : TypeDesc) (hu : Tryz.prog.underlying ty = some d) (hd : d.isRow = true) (n : Nat) (hi : (Tryz.prog.info? ty).map (·.size) = some n) (hn : cs.size = n)
    (h : wpList Tryz.prog ops Q rest (a.put o.dst (.agg cs)) w) : wpList Tryz.prog ops Q (o :: rest) a w := by
  unfold wpList
  rw [if_pos hgd]
  refine Or.inl ?_
  refine wp_load_mid ty x ho g 0 hx cs.toList d (fun j v hv => ?_) hu hd (by rw [hi, ← hn]; simp) ?_
  · rw [Nat.zero_add, cell_at hold]
    simpa using hv
  · simpa using h
end Go.Proofs.YteankdaegdhfiaaGreatDoor
/- A rule looks back as far as its greatest range: the law TypesHorizons. -/
namespace Go.Proofs.YteankdaegdhfiaaGreatDoor
open Go.RowKit

set_option maxHeartbeats 16000000 in
set_option maxRecDepth 20000 in
theorem horizons_any (ta : Option Addr) (n c : Nat) (l : List UInt8) (w : World) (hn : n ≤ 9223372036854775807) (h : Ns w ta n l) (he : Ev w ∧ Et w) : Calls Tryz.prog 10 #[.slice ta n c] w fun e w' => e = .returned (.bool true) ∧ Below w.heap.size w w' := by
  have hkn := tknown_any w he.1 he.2
  have HE : Hid (Ev w) := he.1
  have HT : Hid (Et w) := he.2
  clear he
  obtain ⟨hl0, hcs⟩ := h
  have HL : Hid (l.length = n) := hl0
  clear hl0
  by_cases h12 : n ≤ 12
  · have h12' : ¬ (12 : Int) < n := by omega
    have HTL : Hid (∀ j, j ≤ n → (hT (dsH l j)).length ≤ 200) := fun j hj => by
      have := hT_len (dsH l j)
      have := dsH_len l j
      omega
    go_enter Tryz.func10, Tryz.ntmps10
    go_wp2_with fail
    refine hkn.mono ?_
    rintro e w1 ⟨rfl, b1⟩
    clear hkn
    go_wp2_with fail
    go_loopw [3, 4, 5] (fun t a i wr => ∃ j : Nat, j ≤ n ∧ t = tx (hT (dsH l j)) ∧ a = .int .i64 (hmH l j) ∧ i = .int .i64 j ∧ Below w.heap.size w wr) (fun _ _ i _ => n - (intOf i).toNat)
    case atStart => exact ⟨0, by omega, rfl, rfl, rfl, b1⟩
    case round =>
      obtain ⟨j, hj, rfl, rfl, rfl, B⟩ := hrel
      have hR := HTL.out j hj
      have hM := hmH_in l j
      by_cases hlt : j < n
      · have hlt' : (j : Int) < n := by omega
        obtain ⟨b, off, rfl, hc⟩ := hcs (by omega)
        have c0 := hc j hlt
        have c1 := (B.cell (World.block_lt_of_cell? _ _ c0)).trans c0
        have HS : Hid (dsH l (j + 1) = cdH (l.getD j 0) :: dsH l j) := dsH_step l (by rw [HL.out]; exact hlt)
        have HKS : Hid (hmH l (j + 1) = max (hmH l j) (cdH (l.getD j 0) : Nat)) := hmH_step l (by rw [HL.out]; exact hlt)
        clear hc c0
        obtain ⟨v, HV⟩ : ∃ v : Nat, Hid ((l.getD j 0).toNat = v) := ⟨_, rfl⟩
        have hv := (l.getD j 0).toNat_lt
        rw [HV.out] at c1 hv
        obtain ⟨k, HK⟩ : ∃ k : Nat, Hid (v % 100 = k) := ⟨_, rfl⟩
        have hk : (v : Int) % 100 = (k : Int) := by have := HK.out; omega
        have hkt : (v : Int).tmod 100 = (k : Int) := by rw [Int.tmod_eq_emod_of_nonneg (by omega)]; exact hk
        have hk7 : k ≤ 99 := by have := HK.out; omega
        have HCD : Hid (cdH (l.getD j 0) = k + 1) := by show _ = _; unfold cdH; rw [HV.out, HK.out]
        clear HV HK
        obtain ⟨R, HR⟩ : ∃ R : Str, Hid (hT (dsH l j) = R) := ⟨_, rfl⟩
        rw [HR.out] at hR ⊢
        have HX : Hid (hT (dsH l (j + 1)) = R ++ 32 :: (43 :: 32 :: hX (k + 1))) := by show _ = _; rw [HS.out, hT, HR.out, HCD.out]
        have HM : Hid (hmH l (j + 1) = max (hmH l j) ((k : Int) + 1)) := by show _ = _; rw [HKS.out, HCD.out]; simp
        clear HS HKS HCD HR
        generalize hmH l j = mo at *
        go_wp2_with fail
        go_loopw [7, 8] (fun t m wr2 => ∃ (S : Str) (y : Nat), y ≤ k + 1 ∧ t = tx S ∧ m = .int .i64 y ∧ Hid (dG y ++ S = dG (k + 1)) ∧ Below w.heap.size w wr2) (fun _ m _ => (intOf m).toNat)
        case atStart => exact ⟨[], k + 1, by omega, rfl, by go_num, by show _ = _; simp, B⟩
        case round =>
          obtain ⟨S, y, hy, rfl, rfl, HY, B2⟩ := hrel
          have hSl : S.length ≤ 3 := by
            have h1 := congrArg List.length HY.out
            have h2 := dG_len (k + 1)
            rw [List.length_append] at h1
            omega
          by_cases hy0 : y = 0
          · have hy' : ¬ (0 : Int) < y := by omega
            have HY2 : Hid (S = dG (k + 1)) := by show _ = _; rw [← HY.out, hy0]; rfl
            clear HY
            go_wp2_with (refine wp_add rfl 9 9 _ _ rfl _ _ rfl rfl (by simp <;> omega) ?_)
            go_roundw
            case rel => exact ⟨j + 1, by omega, by rw [HX.out, HY2.out]; simp [hX], by rw [HM.out], by go_num, B2⟩
            case measure => simp [intOf]; omega
          · have hy' : (0 : Int) < y := by omega
            obtain ⟨e, HEE⟩ : ∃ e : Nat, Hid (y % 10 = e) := ⟨_, rfl⟩
            obtain ⟨f, HF⟩ : ∃ f : Nat, Hid (y / 10 = f) := ⟨_, rfl⟩
            have he : (y : Int) % 10 = (e : Int) := by have := HEE.out; omega
            have het : (y : Int).tmod 10 = (e : Int) := by rw [Int.tmod_eq_emod_of_nonneg (by omega)]; exact he
            have hf : (y : Int) / 10 = (f : Int) := by have := HF.out; omega
            have hft : (y : Int).tdiv 10 = (f : Int) := by rw [Int.tdiv_eq_ediv_of_nonneg (by omega)]; exact hf
            have he9 : e ≤ 9 := by have := HEE.out; omega
            have HN : Hid (dG f ++ ([UInt8.ofNat (48 + e)] ++ S) = dG (k + 1)) := by
              show _ = _
              rw [← List.append_assoc, ← HF.out, ← HEE.out, ← dG_step y (by omega) hy0]
              exact HY.out
            have hfy : f < y := by have := HF.out; omega
            clear HY HEE HF
            have hcv := conv_dig wr e he9
            have Ba := bal B2 (.cells #[.int .u8 (48 + (e : Int))] 5)
            obtain ⟨G, HG⟩ : ∃ G : Str, Hid ([UInt8.ofNat (48 + e)] = G) := ⟨_, rfl⟩
            have hG : G.length = 1 := by rw [← HG.out]; rfl
            rw [HG.out] at hcv HN
            go_upto_region 13 with (refine wp_add rfl 9 9 _ _ rfl _ _ rfl rfl (by simp <;> omega) ?_)
            generalize wr.alloc (.cells #[.int .u8 (48 + (e : Int))] 5) = w3 at *
            clear hcv
            go_wp2_with fail
            go_roundw
            case rel => exact ⟨G ++ S, f, by omega, by first | rfl | (unfold tx; congr 1; simp) | (simp only [tx]; congr 1; apply ByteArray.ext; simp), by go_num, HN, Ba⟩
            case measure => simp [intOf]; omega
      · have hlt' : ¬ (j : Int) < n := by omega
        obtain ⟨e1, e2, e3, e4⟩ := hT_fine (dsH_fit l j) (by have := dsH_len l j; omega)
        rw [dsH_hm] at e4
        obtain ⟨R, HR⟩ : ∃ R : Str, Hid (hT (dsH l j) = R) := ⟨_, rfl⟩
        rw [HR.out] at e1 e2 e3 e4 hR ⊢
        have hps := parse_any R wr (by omega) (HE.out.later B)
        have hru := fun lo W cs (h : Tr lo W (psX R) cs) hE => rule_any h e2 hE
        have hhz := fun lo W cs (h : Tr lo W (psX R) cs) => hz_ok (psX R) e2 W cs h
        rw [e1] at hps
        simp only [e3] at hru
        simp only [ruE] at hru
        simp only [e4] at hhz
        clear HTL HL hcs HR e1 e2 e3 e4
        generalize hmH l j = mo at *
        generalize psX R = X at *
        generalize psA R = A at *
        go_wp2_with fail
        refine hps.mono ?_
        rintro e w2 ⟨cs, rfl, t2, b2⟩
        have row := t2.row
        have q0 := heap_new w2 (.cells zE 29)
        have Ba := bal (Below.refl w2.heap.size w2) (.cells zE 29)
        have B2 := B.trans (b2.mono B.size)
        clear hps
        go_wp2_with (first | (refine wp_put rfl 29 _ _ rfl w2.heap.size cs rfl rfl _ 29 q0 13 inf29 rfl row ?_; intro w3 q3 o3 z3; clear z3) | (refine wp_get rfl 29 _ rfl w2.heap.size cs 29 rfl q3 _ Tryz.underlying29 rfl 13 inf29 row.1 ?_))
        have D3 := ((Off.of Ba []).trans o3 (by simp)).below (by simp)
        have B3 := B2.trans (D3.mono B2.size)
        refine (hru _ w3 cs (TrP.later t2 D3) (HT.out.later B3)).mono ?_
        rintro e w4 ⟨rfl, b4⟩
        have q4 := below_heap b4 q3
        have D4 := D3.trans (b4.mono D3.size)
        have B4 := B3.trans (b4.mono B3.size)
        clear hru q0 Ba o3
        go_wp2_with (refine wp_get_on (by rfl) 29 _ rfl w2.heap.size cs 29 rfl q4 _ Tryz.underlying29 rfl 13 inf29 row.1 ?_)
        refine (hhz _ w4 cs (TrP.later t2 D4)).mono ?_
        rintro e w5 ⟨rfl, b5⟩
        have B5 := B4.trans (b5.mono B4.size)
        clear hhz D4 D3
        go_wp2_with fail
        go_ret
        exact ⟨by simp, B5⟩
  · have h12' : (12 : Int) < n := by omega
    go_enter Tryz.func10, Tryz.ntmps10
    go_wp2_with fail
    refine hkn.mono ?_
    rintro e w1 ⟨rfl, b1⟩
    go_wp2_with fail
    go_ret
    exact ⟨rfl, b1⟩
end Go.Proofs.YteankdaegdhfiaaGreatDoor
/- TypesHorizons: for every input the law returns true, and its arguments read as they did: the row, and its card, tied to the program's text. Conditions: none beyond the card's own. -/
namespace Go.Proofs.YteankdaegdhfiaaGreatDoor.typesHorizonsRow
open Go.ChangeShapes Go.WideShapes Go.ChangeAt Go.RowKit Go.Joins Go.ChangeMaps

theorem own : ownKnob Tryz.prog.godebug = none := by kernel_rfl
set_option maxRecDepth 100000 in
theorem lifted (os : Os) (started : os.Started) (H : Type) (enc : TypeId × Value → H) :
    ReturnsInHanded {} Tryz.checked os 10 .any (fun w args => (Rows.typesHorizonsSpec.pre enc Tryz.prog Tryz.f10 Rows.typesHorizonsRow.domain false w args ∧ laidMetH Tryz.prog Rows.typesHorizonsRow.laid w) ∧ sizedMet enc Tryz.prog Tryz.f10 (OpenSpec.ofChange Rows.typesHorizonsSpec) false w args)
      (Rows.typesHorizonsSpec.post enc Tryz.prog Tryz.f10 false true false false) := by
  refine lift_env (fun _ _ _ hh h => h.of_heap hh) (C := Tryz.checked) (X := fun w _ => laidMetH Tryz.prog Rows.typesHorizonsRow.laid w) own started (by kernel_rfl) Tryz.func10
    (ChangeSpec.witness_shaped (enc := enc) (C := Tryz.checked) (os := os) (X := fun w _ => laidMetH Tryz.prog Rows.typesHorizonsRow.laid w) false (wL Tryz.prog os 183 (.pointer (some ⟨9, 93, none⟩)) Rows.typesHorizonsRow.laid) #[.slice none 0 0] 8 (wL_os _ _ _ _ _)
      (World.shaped_of_ZipB (by kernel_rfl) (by kernel_rfl)) (by kernel_rfl) (by kernel_rfl) (by kernel_rfl)
      (wL_met _ (by kernel_rfl) (by kernel_rfl) (by kernel_rfl))) ?_
  intro W base args ds gs before hval0 hW hsh hL
  have hval : ∀ (j : Nat) t v, Tryz.f10.params[j]? = some t → args[j]? = some v → Value.okWide Tryz.prog W .any base t v := hval0
  have hW' := hW
  obtain ⟨p, q, hA0, hV, rfl, hfz, hnd⟩ := hW
  have hA : DataW.TrodAll enc Tryz.prog W 0 (fun _ => true) true Tryz.f10.params.toList args.toList ds p := hA0
  rw [Tryz.params10] at hA hval
  obtain ⟨v0, vs0, d0, ds0, p0, q0, hargs, rfl, rfl, h0, r0⟩ := trodAll_cons hA
  obtain ⟨rfl, rfl, rfl⟩ := trodAll_nil r0
  obtain rfl : args = #[v0] := by cases args; simp_all
  obtain ⟨rfl, rfl⟩ := trodVars_none hV
  have k0 := h0
  have lt0 : ∀ x ∈ p0, x.block < W.heap.size := by obtain ⟨m, hm⟩ := k0; exact DataW.trod_lt m _ _ _ hm
  obtain ⟨xa0, len0, cap0, rfl⟩ := okWide_slice Tryz.underlying63 (hval 0 63 v0 rfl rfl)
  obtain ⟨l0, hs0, hm0⟩ := bytes_of h0
  clear hA0 hval0
  simp only [List.append_nil] at hW'
  refine (horizons_any xa0 len0 cap0 l0 W hm0  hs0 (env_ty hsh hL)).mono fun e W' ⟨he, hg⟩ => ?_
  subst he
  exact ⟨_, rfl, _, _, _, [], _, [], hW', trodAll_mk1 (shut_bool Tryz.underlying4 _), (trodAll_cons_mk (Below.trod laidOut (by kernel_rfl) (of_decide_eq_true (by kernel_rfl)) k0 hg lt0) trodAll_mk0), rfl, hg.frame _, fun h => by cases h⟩

theorem c1 : Rows.typesHorizonsRow.inPlace = Tryz.prog.inPlace 10 := by kernel_rfl
theorem c2 : Rows.typesHorizonsRow.unfollowed = Tryz.prog.unfollowed 10 := by kernel_rfl
theorem c3 : Rows.typesHorizonsRow.recurses = Tryz.prog.recurses 10 := by kernel_rfl
theorem c4 : Rows.typesHorizonsRow.named = Tryz.prog.varsNamed 10 := by kernel_rfl
theorem facts : joinedFacts Tryz.prog 10 Tryz.f10 Rows.typesHorizonsSpec Rows.typesHorizonsRow = true := by
  unfold joinedFacts
  rw [← c1, ← c2, ← c3, ← c4]
  kernel_rfl
theorem wraps : Tryz.f10.isWrapper Tryz.prog Rows.typesHorizonsRow.wrapper Rows.typesHorizonsRow.mainSum := by unfold Func.isWrapper; first | (rw [if_pos (by decide +kernel)]; kernel_rfl) | (rw [if_neg (by decide +kernel)]; exact ⟨rfl, rfl⟩)
theorem inst : Tryz.f10.isInstance Tryz.prog Rows.typesHorizonsRow.origin Rows.typesHorizonsRow.targs := of_decide_eq_true (by kernel_rfl)
theorem goes : false = Rows.typesHorizonsRow.goesBy Tryz.prog := by kernel_rfl
theorem text : Rows.typesHorizonsRow.wfByText (OpenSpec.ofChange Rows.typesHorizonsSpec) = true := by kernel_rfl
theorem looks : true = Tryz.prog.looks [] := by kernel_rfl
theorem holds : Rows.TypesHorizonsSaid :=
  OpenClaim.holds_of_wide 10 Tryz.f10 rfl rfl rfl rfl rfl rfl rfl ⟨rfl, rfl, rfl, rfl, rfl⟩ rfl rfl rfl rfl rfl (by kernel_rfl) Tryz.func10 facts inst wraps (fun os started H enc _ => lifted os started H enc)
end Go.Proofs.YteankdaegdhfiaaGreatDoor.typesHorizonsRow
namespace Go.Proofs.YteankdaegdhfiaaGreatDoor
open Go
theorem typesHorizons_card : Rows.TypesHorizonsCardSaid :=
  Claim7.holds_tied_plain_at .later [] [.data, .data, .data, .data, .handle, .sentinel, .sentinel, .pinned] true (true, "fc8e6130e7cffdc4306bfdd31a4c3f023174449f413e0b6ecd463494529c6174") true typesHorizonsRow.holds (fun _ h => by cases h) typesHorizonsRow.text (fun _ h => by cases h) typesHorizons_row_tie rfl ⟨rfl, rfl⟩ (by kernel_rfl) rfl
    (fun f fn hf hfn => by
      obtain rfl : f = 10 := Option.some.inj ((show Tryz.prog.funcNamed "spillway/spillwaylaw9.TypesHorizons" = some 10 by kernel_rfl).symm.trans hf) |>.symm
      obtain rfl : fn = Tryz.f10 := (Option.some.inj (Tryz.func10.symm.trans hfn)).symm
      exact ⟨typesHorizonsRow.looks, fun j t ht => by
        rw [Tryz.params10] at ht
        have hm : t ∈ [63] := by simpa using Array.mem_of_getElem? ht
        have hall : ([63].all fun u => !Tryz.prog.wantsStandIn u) = true := by kernel_rfl
        exact (show Tryz.prog.wantsStandIn t = false by simpa using List.all_eq_true.1 hall t hm)⟩)
    typesHorizonsRow.goes
end Go.Proofs.YteankdaegdhfiaaGreatDoor
