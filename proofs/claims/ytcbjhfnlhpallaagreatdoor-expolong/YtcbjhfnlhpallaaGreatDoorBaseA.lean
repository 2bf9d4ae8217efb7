/- The texts that the others lean on, in one. -/
import Derived.Lib.Bytealg
import Derived.Lib.Index
import Derived.Test.YtcbjhfnlhpallaaGreatDoorRows
import Derived.WalkKit
import Derived.WalkSpells
import Derived.WalkLawsBesides
import Derived.Deep.RegionHeld3
import Derived.BigQuiet
import Derived.Laws.StructEq
import Derived.Shelf.Small.Strs
import Derived.Shelf.Strings.Search3
import Derived.Shelf.Strings.Cut
import Derived.Shelf.Strings.Prefix
import Derived.Shelf.Slices.Turned
import Derived.Test.YtcbjhfnlhpallaaGreatDoorProg
import Derived.Shelf.SlSortCmp.WholeK
import Derived.Shelf.SlicesE.Clone
import Derived.Shelf.SlGeneric
import Derived.Ground.SlsfProg
import Derived.Ground.SlgnProg
import Derived.Lib.OwnBridge
import Derived.Lib.AppendIntMem
import Derived.Laws.OwnMore
import Derived.Shelf.SlSortCmp.NoneTotal
/- Label sets in plain words: names, values, sets, what is made of pairs, which is less. -/
namespace Go.Proofs.YtcbjhfnlhpallaaGreatDoor

abbrev Str := List UInt8
abbrev Pr := Str × Str

/-! ### Texts, byte by byte -/
theorem str_irrefl (a : Str) : ¬ a < a := List.lt_irrefl a
theorem str_trans {a b c : Str} (h : a < b) (k : b < c) : a < c := List.lt_trans h k
theorem str_asymm {a b : Str} (h : a < b) : ¬ b < a := List.lt_asymm h
theorem str_eq {a b : Str} (h : ¬ a < b) (k : ¬ b < a) : a = b := List.le_antisymm (List.not_lt.1 k) (List.not_lt.1 h)
theorem less_eq (a b : Str) : Go.Op.bytesLess a b = decide (a < b) := by
  induction a generalizing b with
  | nil => cases b <;> simp [Go.Op.bytesLess]
  | cons x a ih =>
    cases b with
    | nil => simp [Go.Op.bytesLess]
    | cons y b =>
      rw [Go.Op.bytesLess, ih]
      by_cases h : x < y
      · simp [h, List.cons_lt_cons_iff]
      · by_cases e : x = y
        · subst e; simp
        · simp [h, e, List.cons_lt_cons_iff]
theorem cmpB_eq (a b : Str) : Lib.compareBytes a b = if a < b then -1 else if b < a then 1 else 0 := by
  induction a generalizing b with
  | nil => cases b <;> simp [Lib.compareBytes]
  | cons x a ih =>
    cases b with
    | nil => simp [Lib.compareBytes]
    | cons y b =>
      rw [Lib.compareBytes, ih]
      by_cases h : x < y
      · simp [h, List.cons_lt_cons_iff]
      · by_cases h2 : y < x
        · have hne : x ≠ y := fun e => by subst e; exact h h2
          simp [h, h2, List.cons_lt_cons_iff, hne]
        · have e : x = y := UInt8.le_antisymm (UInt8.not_lt.1 h2) (UInt8.not_lt.1 h)
          subst e
          simp
theorem cmpB_lt (a b : Str) : decide (Lib.compareBytes a b < 0) = decide (a < b) := by
  rw [cmpB_eq]
  by_cases h : a < b
  · simp [h]
  · by_cases k : b < a <;> simp [h, k]
theorem cmpB_zero (a b : Str) : Lib.compareBytes a b = 0 ↔ a = b := by
  rw [cmpB_eq]
  by_cases h : a < b
  · simp [h]; intro e; subst e; exact str_irrefl _ h
  · by_cases k : b < a
    · simp [h, k]; intro e; subst e; exact h k
    · simp [h, k]; exact str_eq h k
theorem cmpB_neg (a b : Str) : Lib.compareBytes a b = - Lib.compareBytes b a := by
  rw [cmpB_eq, cmpB_eq]
  by_cases h : a < b
  · simp [h, str_asymm h]
  · by_cases k : b < a <;> simp [h, k]
theorem cmpB_cases (a b : Str) : Lib.compareBytes a b = -1 ∨ Lib.compareBytes a b = 0 ∨ Lib.compareBytes a b = 1 := by
  rw [cmpB_eq]
  by_cases h : a < b
  · simp [h]
  · by_cases k : b < a <;> simp [h, k]
theorem cmpB_trans {a b c : Str} (h : Lib.compareBytes a b = -1) (k : Lib.compareBytes b c = -1) : Lib.compareBytes a c = -1 := by
  have f : ∀ x y : Str, Lib.compareBytes x y = -1 ↔ x < y := fun x y => by
    rw [cmpB_eq]
    by_cases h : x < y
    · simp [h]
    · by_cases k : y < x <;> simp [h, k]
  rw [f] at *
  exact str_trans h k

/-! ### Names, values, sets -/
def digB (c : UInt8) : Bool := decide (48 ≤ c.toNat) && decide (c.toNat ≤ 57)
def letB (c : UInt8) : Bool := decide (97 ≤ c.toNat) && decide (c.toNat ≤ 122) || decide (65 ≤ c.toNat) && decide (c.toNat ≤ 90)
def nameCh (c : UInt8) : Bool := digB c || letB c || decide (c.toNat = 95)
def fName (s : Str) : Bool := decide (1 ≤ s.length) && decide (s.length ≤ 20) && !digB (s.headD 0) && s.all nameCh
def fVal (s : Str) : Bool := decide (1 ≤ s.length) && decide (s.length ≤ 30) && !s.contains 10
def okAt (l : List Pr) (i : Nat) : Bool := fName (l.getD i ([], [])).1 && fVal (l.getD i ([], [])).2 && (decide (i = 0) || decide ((l.getD (i - 1) ([], [])).1 < (l.getD i ([], [])).1))
def fIs (l : List Pr) : Bool := decide (l.length ≤ 8) && (List.range l.length).all (okAt l)
def rises (l : List Pr) : Prop := l.Pairwise (fun a b => a.1 < b.1)

theorem rises_of {l : List Pr} (h : ∀ i, 0 < i → i < l.length → (l.getD (i - 1) ([], [])).1 < (l.getD i ([], [])).1) : rises l := by
  unfold rises
  induction l with
  | nil => exact List.Pairwise.nil
  | cons a l ih =>
    have ih' := ih (fun i h0 h1 => by
      have := h (i + 1) (by omega) (by simp; omega)
      obtain ⟨j, rfl⟩ : ∃ j, i = j + 1 := ⟨i - 1, by omega⟩
      simpa using this)
    cases l with
    | nil => simp
    | cons b r =>
      have h1 := h 1 (by omega) (by simp)
      simp at h1
      rw [List.pairwise_cons]
      refine ⟨fun x hx => ?_, ih'⟩
      rcases List.mem_cons.1 hx with rfl | hx
      · exact h1
      · exact str_trans h1 ((List.pairwise_cons.1 ih').1 x hx)
theorem rises_at {l : List Pr} (h : rises l) {i j : Nat} (hij : i < j) (hj : j < l.length) : (l.getD i ([], [])).1 < (l.getD j ([], [])).1 := by
  unfold rises at h
  rw [List.pairwise_iff_getElem] at h
  have := h i j (by omega) hj hij
  simpa [List.getD, List.getElem?_eq_getElem hj, List.getElem?_eq_getElem (show i < l.length by omega)] using this
theorem is_iff (l : List Pr) : fIs l = true ↔ l.length ≤ 8 ∧ (∀ p ∈ l, fName p.1 = true ∧ fVal p.2 = true) ∧ rises l := by
  unfold fIs
  rw [Bool.and_eq_true, decide_eq_true_iff, List.all_eq_true]
  constructor
  · rintro ⟨h1, h2⟩
    have h3 : ∀ i, i < l.length → okAt l i = true := fun i hi => h2 i (List.mem_range.2 hi)
    refine ⟨h1, ?_, rises_of fun i h0 hi => ?_⟩
    · intro p hp
      obtain ⟨i, hi, rfl⟩ := List.mem_iff_getElem.1 hp
      have := h3 i hi
      unfold okAt at this
      simp [List.getD, List.getElem?_eq_getElem hi] at this
      exact this.1
    · have := h3 i hi
      unfold okAt at this
      simp only [Bool.and_eq_true, Bool.or_eq_true, decide_eq_true_iff] at this
      rcases this.2 with h | h
      · omega
      · exact h
  · rintro ⟨h1, h2, h3⟩
    refine ⟨h1, fun i hi => ?_⟩
    have hi' := List.mem_range.1 hi
    have hm := h2 l[i] (List.getElem_mem hi')
    unfold okAt
    simp only [Bool.and_eq_true, Bool.or_eq_true, decide_eq_true_iff]
    refine ⟨by simpa [List.getD, List.getElem?_eq_getElem hi'] using hm, ?_⟩
    by_cases h0 : i = 0
    · exact Or.inl h0
    · exact Or.inr (rises_at h3 (by omega) hi')
theorem rises_nodup {l : List Pr} (h : rises l) : (l.map (·.1)).Nodup := by
  unfold rises at h
  rw [List.Nodup, List.pairwise_map]
  exact h.imp fun {a b} hab e => by rw [e] at hab; exact str_irrefl _ hab
theorem rises_filter {l : List Pr} (h : rises l) (p : Pr → Bool) : rises (l.filter p) := List.Pairwise.filter p h
theorem is_filter {l : List Pr} (h : fIs l = true) (p : Pr → Bool) : fIs (l.filter p) = true := by
  rw [is_iff] at *
  exact ⟨Nat.le_trans (List.length_filter_le _ _) h.1, fun x hx => h.2.1 x (List.mem_filter.1 hx).1, rises_filter h.2.2 p⟩

/-! ### Sorted by name: one row, where no name comes twice -/
def ins (p : Pr) : List Pr → List Pr
  | [] => [p]
  | q :: r => if q.1 < p.1 then q :: ins p r else p :: q :: r
def srt : List Pr → List Pr
  | [] => []
  | p :: r => ins p (srt r)
theorem ins_perm (p : Pr) (l : List Pr) : (ins p l).Perm (p :: l) := by
  induction l with
  | nil => exact List.Perm.refl _
  | cons q r ih =>
    rw [ins]
    split
    · exact (List.Perm.cons q ih).trans (List.Perm.swap p q r)
    · exact List.Perm.refl _
theorem srt_perm (l : List Pr) : (srt l).Perm l := by
  induction l with
  | nil => exact List.Perm.refl _
  | cons p r ih => exact (ins_perm p (srt r)).trans (List.Perm.cons p ih)
def sortedN (l : List Pr) : Prop := l.Pairwise (fun a b => ¬ b.1 < a.1)
theorem ins_sorted (p : Pr) {l : List Pr} (h : sortedN l) : sortedN (ins p l) := by
  unfold sortedN at *
  induction l with
  | nil => simp [ins]
  | cons q r ih =>
    rw [ins]
    split
    · rename_i hq
      rw [List.pairwise_cons] at h ⊢
      refine ⟨fun x hx => ?_, ih h.2⟩
      rcases List.mem_cons.1 ((ins_perm p r).mem_iff.1 hx) with rfl | hx
      · exact str_asymm hq
      · exact h.1 x hx
    · rename_i hq
      rw [List.pairwise_cons]
      refine ⟨fun x hx => ?_, h⟩
      rw [List.pairwise_cons] at h
      rcases List.mem_cons.1 hx with rfl | hx
      · exact hq
      · intro hlt
        have h1 := h.1 x hx
        -- q ≤ x < p, yet p ≤ q
        by_cases e : q.1 = x.1
        · rw [e] at hq; exact hq hlt
        · have : q.1 < x.1 := by
            by_cases k : q.1 < x.1
            · exact k
            · exact absurd (str_eq k h1) e
          exact hq (str_trans this hlt)
theorem srt_sorted (l : List Pr) : sortedN (srt l) := by
  induction l with
  | nil => exact List.Pairwise.nil
  | cons p r ih => exact ins_sorted p ih
theorem sorted_rises {l : List Pr} (h : sortedN l) (hn : (l.map (·.1)).Nodup) : rises l := by
  unfold rises
  unfold sortedN at h
  rw [List.Nodup, List.pairwise_map] at hn
  exact (h.and hn).imp fun {a b} ⟨h1, h2⟩ => by
    by_cases k : a.1 < b.1
    · exact k
    · exact absurd (str_eq k h1) h2
theorem rises_unique {l m : List Pr} (hp : l.Perm m) (hl : rises l) (hm : rises m) : l = m := by
  unfold rises at *
  induction l generalizing m with
  | nil => exact (List.nil_perm.1 hp).symm
  | cons a l ih =>
    cases m with
    | nil => exact absurd (List.perm_nil.1 hp) (by simp)
    | cons b m =>
      rw [List.pairwise_cons] at hl hm
      have e : a = b := by
        have ha : a ∈ b :: m := hp.mem_iff.1 (List.mem_cons_self)
        have hb : b ∈ a :: l := hp.mem_iff.2 (List.mem_cons_self)
        rcases List.mem_cons.1 ha with rfl | ha
        · rfl
        · rcases List.mem_cons.1 hb with rfl | hb
          · rfl
          · exact absurd (hl.1 b hb) (str_asymm (hm.1 a ha))
      subst e
      rw [ih (List.Perm.cons_inv hp) hl.2 hm.2]
theorem srt_of {l m : List Pr} (hp : m.Perm l) (hm : rises m) : srt l = m := by
  have hn : ((srt l).map (·.1)).Nodup := (((srt_perm l).trans hp.symm).map (·.1)).nodup_iff.2 (rises_nodup hm)
  exact rises_unique ((srt_perm l).trans hp.symm) (sorted_rises (srt_sorted l) hn) hm
theorem srt_rises {l : List Pr} (h : rises l) : srt l = l := srt_of (List.Perm.refl _) h

/-! ### Make, Get, With, Keep, Without, Cmp -/
def twice (l : List Pr) : Bool := !decide (l.map (·.1)).Nodup
def full (l : List Pr) : List Pr := l.filter fun p => !p.2.isEmpty
def makeE (l : List Pr) : Int := if twice l = true then 31 else if fIs (srt (full l)) = true then 0 else 30
def makeL (l : List Pr) : List Pr := if makeE l = 0 then srt (full l) else []
def fGet (l : List Pr) (n : Str) : Str := ((l.find? fun p => decide (p.1 = n)).map (·.2)).getD []
def fKeep (l : List Pr) (names : List Str) : List Pr := l.filter fun p => names.contains p.1
def nm : Str := [95, 95, 110, 97, 109, 101, 95, 95]
def fWithout (l : List Pr) (names : List Str) : List Pr := l.filter fun p => !decide (p.1 = nm) && !names.contains p.1
def pCmp (a b : Pr) : Int := if Lib.compareBytes a.1 b.1 = 0 then Lib.compareBytes a.2 b.2 else Lib.compareBytes a.1 b.1
def fCmp : List Pr → List Pr → Int
  | [], [] => 0
  | [], _ :: _ => -1
  | _ :: _, [] => 1
  | a :: as, b :: bs => if pCmp a b = 0 then fCmp as bs else pCmp a b
theorem pCmp_zero (a b : Pr) : pCmp a b = 0 ↔ a = b := by
  unfold pCmp
  by_cases h : Lib.compareBytes a.1 b.1 = 0
  · rw [if_pos h, cmpB_zero]
    rw [cmpB_zero] at h
    exact ⟨fun e => Prod.ext h e, fun e => by rw [e]⟩
  · rw [if_neg h]
    refine ⟨fun e => absurd e h, fun e => ?_⟩
    rw [e, (cmpB_zero _ _).2 rfl] at h
    exact absurd rfl h
theorem pCmp_neg (a b : Pr) : pCmp a b = - pCmp b a := by
  unfold pCmp
  have e1 := cmpB_neg a.1 b.1
  have e2 := cmpB_neg a.2 b.2
  by_cases h : Lib.compareBytes a.1 b.1 = 0
  · rw [if_pos h, if_pos (by omega)]; exact e2
  · rw [if_neg h, if_neg (by omega)]; exact e1
theorem pCmp_cases (a b : Pr) : pCmp a b = -1 ∨ pCmp a b = 0 ∨ pCmp a b = 1 := by
  unfold pCmp
  split
  · exact cmpB_cases _ _
  · exact cmpB_cases _ _
theorem pCmp_trans {a b c : Pr} (h : pCmp a b = -1) (k : pCmp b c = -1) : pCmp a c = -1 := by
  unfold pCmp at *
  by_cases h1 : Lib.compareBytes a.1 b.1 = 0
  · rw [if_pos h1] at h
    rw [(cmpB_zero _ _).1 h1]
    by_cases h2 : Lib.compareBytes b.1 c.1 = 0
    · rw [if_pos h2] at k ⊢; exact cmpB_trans h k
    · rw [if_neg h2] at k ⊢; exact k
  · rw [if_neg h1] at h
    by_cases h2 : Lib.compareBytes b.1 c.1 = 0
    · rw [← (cmpB_zero _ _).1 h2, if_neg h1]; exact h
    · rw [if_neg h2] at k
      have := cmpB_trans h k
      rw [if_neg (by omega)]; exact this
theorem fCmp_zero (a b : List Pr) : fCmp a b = 0 ↔ a = b := by
  induction a generalizing b with
  | nil => cases b <;> simp [fCmp]
  | cons x a ih =>
    cases b with
    | nil => simp [fCmp]
    | cons y b =>
      rw [fCmp]
      by_cases h : pCmp x y = 0
      · rw [if_pos h, ih, (pCmp_zero _ _).1 h]; simp
      · rw [if_neg h]
        refine ⟨fun e => absurd e h, fun e => ?_⟩
        cases e
        exact absurd ((pCmp_zero _ _).2 rfl) h
theorem fCmp_neg (a b : List Pr) : fCmp a b = - fCmp b a := by
  induction a generalizing b with
  | nil => cases b <;> simp [fCmp]
  | cons x a ih =>
    cases b with
    | nil => simp [fCmp]
    | cons y b =>
      rw [fCmp, fCmp]
      have e := pCmp_neg x y
      by_cases h : pCmp x y = 0
      · rw [if_pos h, if_pos (by omega)]; exact ih b
      · rw [if_neg h, if_neg (by omega)]; exact e
theorem fCmp_cases (a b : List Pr) : fCmp a b = -1 ∨ fCmp a b = 0 ∨ fCmp a b = 1 := by
  induction a generalizing b with
  | nil => cases b <;> simp [fCmp]
  | cons x a ih =>
    cases b with
    | nil => simp [fCmp]
    | cons y b =>
      rw [fCmp]
      split
      · exact ih b
      · exact pCmp_cases x y
theorem fCmp_trans {a b c : List Pr} (h : fCmp a b = -1) (k : fCmp b c = -1) : fCmp a c = -1 := by
  induction a generalizing b c with
  | nil => cases b <;> cases c <;> simp_all [fCmp]
  | cons x a ih =>
    cases b with
    | nil => simp [fCmp] at h
    | cons y b =>
      cases c with
      | nil => simp [fCmp] at k
      | cons z c =>
        rw [fCmp] at *
        by_cases h1 : pCmp x y = 0
        · rw [if_pos h1] at h
          rw [(pCmp_zero _ _).1 h1]
          by_cases h2 : pCmp y z = 0
          · rw [if_pos h2] at k ⊢; exact ih h k
          · rw [if_neg h2] at k ⊢; exact k
        · rw [if_neg h1] at h
          by_cases h2 : pCmp y z = 0
          · rw [← (pCmp_zero _ _).1 h2, if_neg h1]; exact h
          · rw [if_neg h2] at k
            have := pCmp_trans h k
            rw [if_neg (by omega)]; exact this
theorem fCmp_le_trans {a b c : List Pr} (h : fCmp a b ≤ 0) (k : fCmp b c ≤ 0) : fCmp a c ≤ 0 := by
  rcases fCmp_cases a b with h1 | h1 | h1
  · rcases fCmp_cases b c with k1 | k1 | k1
    · rw [fCmp_trans h1 k1]; omega
    · rw [← (fCmp_zero _ _).1 k1]; omega
    · omega
  · rw [(fCmp_zero _ _).1 h1]; exact k
  · omega
theorem fCmp_take (a : List Pr) (k : Nat) (h : k ≤ a.length) : fCmp (a.take k) a = if k < a.length then -1 else 0 := by
  induction a generalizing k with
  | nil => simp [fCmp]
  | cons x a ih =>
    cases k with
    | zero => simp [fCmp]
    | succ k =>
      rw [List.take_succ_cons, fCmp, if_pos ((pCmp_zero _ _).2 rfl), ih k (by simpa using h)]
      simp
end Go.Proofs.YtcbjhfnlhpallaaGreatDoor
/- The leaves of package label: isDigit, isLetter, Name: each for every argument. -/
namespace Go.Proofs.YtcbjhfnlhpallaaGreatDoor
open Go.RowKit

theorem ret_int {k : IntKind} {a b : Int} (h : a = b) : Ending.returned (.int k a) = .returned (.int k b) := by rw [h]
theorem ret_bool {a b : Bool} (h : a = b) : Ending.returned (.bool a) = .returned (.bool b) := by rw [h]
theorem Below.chain {a b c : World} (h : Below a.heap.size a b) (k : Below b.heap.size b c) : Below a.heap.size a c := h.trans (k.mono h.size)
theorem bal {a w : World} (h : Below a.heap.size a w) (o : Obj) : Below a.heap.size a (w.alloc o) := h.alloc h.size o
theorem ba_size (l : Str) : (⟨l.toArray⟩ : ByteArray).size = l.length := by show l.toArray.size = _; simp
theorem ba_lt {l : Str} {k : Nat} (h : k < l.length) : k < (⟨l.toArray⟩ : ByteArray).size := by rw [ba_size]; exact h
theorem ba_toList (l : Str) : (⟨l.toArray⟩ : ByteArray).toList = l := by rw [Lib.toList_data]
theorem take_snocB (l : Str) (k : Nat) (h : k < l.length) : l.take (k + 1) = l.take k ++ [l[k]] := List.take_succ_eq_append_getElem h
/-- Byte k of a text. -/
theorem ba_get {l : Str} {k : Nat} (h : k < l.length) : (⟨l.toArray⟩ : ByteArray)[k]'(ba_lt h) = l[k] := rfl

theorem isDigit_any (c : UInt8) (w : World) : Calls Tryz.prog 107 #[.int .u8 c.toNat] w fun e w' => e = .returned (.bool (digB c)) ∧ w = w' := by
  unfold digB
  go_enter Tryz.func107, Tryz.ntmps107
  go_wp2
  all_goals
    go_ret
    exact ⟨ret_bool (by rw [Bool.eq_iff_iff]; simp; omega), rfl⟩
theorem isLetter_any (c : UInt8) (w : World) : Calls Tryz.prog 108 #[.int .u8 c.toNat] w fun e w' => e = .returned (.bool (letB c)) ∧ w = w' := by
  unfold letB
  go_enter Tryz.func108, Tryz.ntmps108
  go_wp2
  all_goals
    go_ret
    exact ⟨ret_bool (by rw [Bool.eq_iff_iff]; simp; omega), rfl⟩
end Go.Proofs.YtcbjhfnlhpallaaGreatDoor
/- Name: for every text. -/
namespace Go.Proofs.YtcbjhfnlhpallaaGreatDoor
open Go.RowKit

theorem all_snoc (l : Str) (c : UInt8) (f : UInt8 → Bool) : (l ++ [c]).all f = (l.all f && f c) := by simp
theorem not_all {l : Str} (k : Nat) (hk : k < l.length) (h : nameCh l[k] = false) : l.all nameCh = false := by
  cases hd : l.all nameCh with
  | false => rfl
  | true => rw [List.all_eq_true.1 hd _ (List.getElem_mem hk)] at h; cases h

set_option maxHeartbeats 1000000 in
theorem name_any (l : Str) (w : World) (hl : l.length ≤ 9223372036854775807) :
    Calls Tryz.prog 66 #[.string ⟨l.toArray⟩] w fun e w' => e = .returned (.bool (fName l)) ∧ w = w' := by
  by_cases h1 : 1 ≤ l.length
  · have h1' : ¬ (l.length : Int) < 1 := by omega
    by_cases h2 : l.length ≤ 20
    · have h2' : ¬ (20 : Int) < l.length := by omega
      have hb0 := ba_lt h1
      have hd0 := fun w => isDigit_any ((⟨l.toArray⟩ : ByteArray)[0]'hb0) w
      have hdh : l.headD 0 = (⟨l.toArray⟩ : ByteArray)[0]'hb0 := by
        cases l with
        | nil => cases h1
        | cons c r => rfl
      have e : fName l = (!digB ((⟨l.toArray⟩ : ByteArray)[0]'hb0) && l.all nameCh) := by simp only [fName, h1, h2, hdh, decide_true, Bool.true_and]
      rw [e]
      have HE : Hid (fName l = (!digB ((⟨l.toArray⟩ : ByteArray)[0]'hb0) && l.all nameCh)) := e
      clear e hdh
      cases hd : digB ((⟨l.toArray⟩ : ByteArray)[0]'hb0) with
      | true =>
        rw [hd] at hd0
        go_enter Tryz.func66, Tryz.ntmps66
        go_wp2_with (go_at_call 107; refine (hd0 _).mono ?_; rintro e w' ⟨rfl, rfl⟩)
        go_ret
        exact ⟨by simp, rfl⟩
      | false =>
        rw [hd] at hd0
        clear hd HE
        go_enter Tryz.func66, Tryz.ntmps66
        go_wp2_with (go_at_call 107; refine (hd0 _).mono ?_; rintro e w' ⟨rfl, rfl⟩)
        go_loop [19] (fun i => ∃ k : Nat, k ≤ l.length ∧ i = .int .i64 k ∧ Hid ((l.take k).all nameCh = true)) (fun i => l.length - (intOf i).toNat)
        case atStart => exact ⟨0, by omega, rfl, rfl⟩
        case round =>
          obtain ⟨k, hk, rfl, ha⟩ := hrel
          by_cases hlt : k < l.length
          · have hbk := ba_lt hlt
            have hdk := fun w => isDigit_any ((⟨l.toArray⟩ : ByteArray)[k]'hbk) w
            have hlk := fun w => isLetter_any ((⟨l.toArray⟩ : ByteArray)[k]'hbk) w
            have HC : Hid (nameCh l[k] = (digB ((⟨l.toArray⟩ : ByteArray)[k]'hbk) || letB ((⟨l.toArray⟩ : ByteArray)[k]'hbk) || decide (((⟨l.toArray⟩ : ByteArray)[k]'hbk).toNat = 95))) := rfl
            have HS : Hid ((l.take (k + 1)).all nameCh = nameCh l[k]) := by
              show _ = _
              rw [take_snocB l k hlt, all_snoc, ha.out, Bool.true_and]
            have HN : Hid (nameCh l[k] = false → l.all nameCh = false) := not_all k hlt
            generalize nameCh l[k] = N at *
            cases hdc : digB ((⟨l.toArray⟩ : ByteArray)[k]'hbk) with
            | true =>
              rw [hdc] at hdk
              have HT : Hid ((l.take (k + 1)).all nameCh = true) := by show _ = _; rw [HS.out, HC.out, hdc]; rfl
              clear hdc
              go_wp2_with (go_at_call 107; refine (hdk _).mono ?_; rintro e w' ⟨rfl, rfl⟩)
              go_round
              case rel => exact ⟨k + 1, by omega, by go_num, HT⟩
              case measure => simp [intOf]; omega
            | false =>
              rw [hdc] at hdk
              cases hlc : letB ((⟨l.toArray⟩ : ByteArray)[k]'hbk) with
              | true =>
                rw [hlc] at hlk
                have HT : Hid ((l.take (k + 1)).all nameCh = true) := by show _ = _; rw [HS.out, HC.out, hdc, hlc]; rfl
                clear hdc hlc
                go_wp2_with (first | (go_at_call 107; refine (hdk _).mono ?_; rintro e w' ⟨rfl, rfl⟩) | (go_at_call 108; refine (hlk _).mono ?_; rintro e w' ⟨rfl, rfl⟩))
                go_round
                case rel => exact ⟨k + 1, by omega, by go_num, HT⟩
                case measure => simp [intOf]; omega
              | false =>
                rw [hlc] at hlk
                by_cases hu : ((⟨l.toArray⟩ : ByteArray)[k]'hbk).toNat = 95
                · have HT : Hid ((l.take (k + 1)).all nameCh = true) := by show _ = _; rw [HS.out, HC.out, hdc, hlc]; simp [hu]
                  clear hdc hlc
                  have hu' : ((((⟨l.toArray⟩ : ByteArray)[k]'hbk).toNat : Int) != 95) = false := by rw [bne_eq_false_iff_eq]; omega
                  clear hu
                  go_wp2_with (first | (go_at_call 107; refine (hdk _).mono ?_; rintro e w' ⟨rfl, rfl⟩) | (go_at_call 108; refine (hlk _).mono ?_; rintro e w' ⟨rfl, rfl⟩))
                  go_round
                  case rel => exact ⟨k + 1, by omega, by go_num, HT⟩
                  case measure => simp [intOf]; omega
                · have HF : Hid (l.all nameCh = false) := HN.out (by rw [HC.out, hdc, hlc]; simp [hu])
                  clear hdc hlc
                  have hu' : ((((⟨l.toArray⟩ : ByteArray)[k]'hbk).toNat : Int) != 95) = true := by rw [bne_iff_ne]; omega
                  clear hu
                  go_wp2_with (first | (go_at_call 107; refine (hdk _).mono ?_; rintro e w' ⟨rfl, rfl⟩) | (go_at_call 108; refine (hlk _).mono ?_; rintro e w' ⟨rfl, rfl⟩))
                  go_ret
                  exact ⟨by rw [HF.out]; rfl, rfl⟩
          · have HF : Hid (l.all nameCh = true) := by
              have := ha.out
              rw [List.take_of_length_le (by omega)] at this
              exact this
            go_wp2_with fail
            go_ret
            exact ⟨by rw [HF.out]; rfl, rfl⟩
    · have h2' : (20 : Int) < l.length := by omega
      have e : fName l = false := by simp [fName, h2]
      rw [e]
      go_enter Tryz.func66, Tryz.ntmps66
      go_wp2_with fail
      go_ret
      exact ⟨rfl, rfl⟩
  · have h1' : (l.length : Int) < 1 := by omega
    have e : fName l = false := by simp [fName, h1]
    rw [e]
    go_enter Tryz.func66, Tryz.ntmps66
    go_wp2_with fail
    go_ret
    exact ⟨rfl, rfl⟩
end Go.Proofs.YtcbjhfnlhpallaaGreatDoor
/- More of label sets in plain words: what is got of a part of a set; of each name the last pair. -/
namespace Go.Proofs.YtcbjhfnlhpallaaGreatDoor

theorem get_nil (n : Str) : fGet [] n = [] := rfl
theorem get_cons (p : Pr) (l : List Pr) (n : Str) : fGet (p :: l) n = if p.1 = n then p.2 else fGet l n := by
  unfold fGet
  rw [List.find?_cons]
  by_cases h : p.1 = n
  · simp [h]
  · simp [h]
theorem get_none {l : List Pr} {n : Str} (h : ∀ p ∈ l, p.1 ≠ n) : fGet l n = [] := by
  induction l with
  | nil => rfl
  | cons p l ih => rw [get_cons, if_neg (h p List.mem_cons_self), ih fun q hq => h q (List.mem_cons_of_mem _ hq)]
theorem get_of_mem {l : List Pr} (hn : (l.map (·.1)).Nodup) {p : Pr} (h : p ∈ l) : fGet l p.1 = p.2 := by
  induction l with
  | nil => cases h
  | cons q l ih =>
    rw [List.map_cons, List.nodup_cons] at hn
    rw [get_cons]
    rcases List.mem_cons.1 h with rfl | h
    · rw [if_pos rfl]
    · have hne : ¬ q.1 = p.1 := fun e => hn.1 (by rw [e]; exact List.mem_map_of_mem (f := fun q : Pr => q.1) h)
      rw [if_neg hne, ih hn.2 h]
theorem nodup_filter {l : List Pr} (hn : (l.map (·.1)).Nodup) (f : Pr → Bool) : ((l.filter f).map (·.1)).Nodup := by
  rw [List.Nodup, List.pairwise_map] at *
  exact hn.filter f
theorem inj_name {l : List Pr} (hn : (l.map (·.1)).Nodup) {p q : Pr} (hp : p ∈ l) (hq : q ∈ l) (e : p.1 = q.1) : p = q := by
  have h1 := get_of_mem hn hp
  have h2 := get_of_mem hn hq
  rw [e, h2] at h1
  exact Prod.ext e h1.symm
theorem get_filter {l : List Pr} (hn : (l.map (·.1)).Nodup) (f : Pr → Bool) {p : Pr} (h : p ∈ l) : fGet (l.filter f) p.1 = if f p = true then p.2 else [] := by
  by_cases hf : f p = true
  · rw [if_pos hf]
    exact get_of_mem (nodup_filter hn f) (List.mem_filter.2 ⟨h, hf⟩)
  · rw [if_neg hf]
    refine get_none fun q hq e => hf ?_
    obtain ⟨h1, h2⟩ := List.mem_filter.1 hq
    rw [inj_name hn h h1 e.symm]
    exact h2
theorem val_ne {s : Str} (h : fVal s = true) : s ≠ [] := fun e => by subst e; simp [fVal] at h
theorem val_len {s : Str} (h : fVal s = true) : 1 ≤ s.length ∧ s.length ≤ 30 := by
  unfold fVal at h
  simp only [Bool.and_eq_true, decide_eq_true_iff] at h
  exact h.1

/-! ### Of each name the last -/
def lastOf : List Pr → List Pr
  | [] => []
  | p :: r => if r.any (fun q => decide (q.1 = p.1)) = true then lastOf r else p :: lastOf r
/-- Of the pairs that lie side by side under one name the last. -/
def ends : List Pr → List Pr
  | [] => []
  | [p] => [p]
  | p :: q :: r => if p.1 = q.1 then ends (q :: r) else p :: ends (q :: r)
/-- The last pair of that name. -/
def lastN (l : List Pr) (n : Str) : Option Pr := (l.filter fun p => decide (p.1 = n)).getLast?
theorem lastN_cons (p : Pr) (l : List Pr) (n : Str) : lastN (p :: l) n = if l.any (fun q => decide (q.1 = n)) = true then lastN l n else if p.1 = n then some p else none := by
  unfold lastN
  by_cases ha : l.any (fun q => decide (q.1 = n)) = true
  · rw [if_pos ha]
    obtain ⟨q, hq, he⟩ := List.any_eq_true.1 ha
    have hne : (l.filter fun p => decide (p.1 = n)) ≠ [] := List.ne_nil_of_mem (List.mem_filter.2 ⟨hq, he⟩)
    rw [List.filter_cons]
    split
    · rw [List.getLast?_cons]
      cases h : (l.filter fun p => decide (p.1 = n)).getLast? with
      | none => exact absurd (List.getLast?_eq_none_iff.1 h) hne
      | some x => rfl
    · rfl
  · rw [if_neg ha]
    have he : (l.filter fun p => decide (p.1 = n)) = [] := by
      rw [List.filter_eq_nil_iff]
      intro q hq e
      exact ha (List.any_eq_true.2 ⟨q, hq, e⟩)
    rw [List.filter_cons, he]
    by_cases h : p.1 = n
    · simp [h]
    · simp [h]
theorem lastOf_mem (l : List Pr) (p : Pr) : p ∈ lastOf l ↔ lastN l p.1 = some p := by
  induction l with
  | nil => simp [lastOf, lastN]
  | cons a l ih =>
    rw [lastN_cons, lastOf]
    by_cases ha : l.any (fun q => decide (q.1 = a.1)) = true
    · rw [if_pos ha, ih]
      by_cases e : a.1 = p.1
      · rw [e] at ha
        rw [if_pos ha]
      · by_cases hb : l.any (fun q => decide (q.1 = p.1)) = true
        · rw [if_pos hb]
        · rw [if_neg hb, if_neg e]
          have : lastN l p.1 = none := by
            unfold lastN
            rw [List.getLast?_eq_none_iff, List.filter_eq_nil_iff]
            exact fun q hq e => hb (List.any_eq_true.2 ⟨q, hq, e⟩)
          rw [this]
    · rw [if_neg ha, List.mem_cons, ih]
      by_cases e : p = a
      · subst e
        rw [if_neg ha, if_pos rfl]
        simp
      · by_cases hb : l.any (fun q => decide (q.1 = p.1)) = true
        · rw [if_pos hb]
          simp [e]
        · rw [if_neg hb]
          have : lastN l p.1 = none := by
            unfold lastN
            rw [List.getLast?_eq_none_iff, List.filter_eq_nil_iff]
            exact fun q hq e => hb (List.any_eq_true.2 ⟨q, hq, e⟩)
          rw [this]
          by_cases e2 : a.1 = p.1
          · rw [if_pos e2]
            simp [e]
            exact fun e' => e e'.symm
          · rw [if_neg e2]
            simp [e]
theorem lastOf_sub {l : List Pr} {p : Pr} (h : p ∈ lastOf l) : p ∈ l := by
  rw [lastOf_mem] at h
  exact (List.mem_filter.1 (List.mem_of_getLast? h)).1
theorem lastOf_nodup (l : List Pr) : ((lastOf l).map (·.1)).Nodup := by
  induction l with
  | nil => simp [lastOf]
  | cons a l ih =>
    rw [lastOf]
    split
    · exact ih
    · rename_i h
      rw [List.map_cons, List.nodup_cons]
      refine ⟨fun hm => ?_, ih⟩
      obtain ⟨q, hq, e⟩ := List.mem_map.1 hm
      exact h (List.any_eq_true.2 ⟨q, lastOf_sub hq, by simpa using e⟩)
theorem ends_sub {l : List Pr} {p : Pr} (h : p ∈ ends l) : p ∈ l := by
  induction l using ends.induct with
  | case1 => simp [ends] at h
  | case2 q => simpa [ends] using h
  | case3 a b r e ih =>
    rw [ends, if_pos e] at h
    exact List.mem_cons_of_mem _ (ih h)
  | case4 a b r e ih =>
    rw [ends, if_neg e] at h
    rcases List.mem_cons.1 h with rfl | h
    · exact List.mem_cons_self
    · exact List.mem_cons_of_mem _ (ih h)
theorem ends_rises {l : List Pr} (h : sortedN l) : rises (ends l) := by
  unfold rises
  induction l using ends.induct with
  | case1 => exact List.Pairwise.nil
  | case2 q => simp [ends]
  | case3 a b r e ih =>
    rw [ends, if_pos e]
    exact ih (List.pairwise_cons.1 h).2
  | case4 a b r e ih =>
    rw [ends, if_neg e, List.pairwise_cons]
    have h' := List.pairwise_cons.1 h
    refine ⟨fun x hx => ?_, ih h'.2⟩
    have hab : a.1 < b.1 := by
      have := h'.1 b List.mem_cons_self
      by_cases k : a.1 < b.1
      · exact k
      · exact absurd (str_eq k this) e
    rcases List.mem_cons.1 (ends_sub hx) with rfl | hx
    · exact hab
    · have := (List.pairwise_cons.1 h'.2).1 x hx
      by_cases k : b.1 < x.1
      · exact str_trans hab k
      · rw [← str_eq k this]; exact hab
theorem ends_mem {l : List Pr} (h : sortedN l) (p : Pr) : p ∈ ends l ↔ lastN l p.1 = some p := by
  induction l using ends.induct with
  | case1 => simp [ends, lastN]
  | case2 q =>
    rw [lastN_cons]
    simp [ends]
    by_cases e : p = q
    · subst e; simp
    · simp [e, Ne.symm e]
  | case3 a b r e ih =>
    have h' := List.pairwise_cons.1 h
    rw [ends, if_pos e, ih h'.2, lastN_cons a]
    by_cases hb : (b :: r).any (fun q => decide (q.1 = p.1)) = true
    · rw [if_pos hb]
    · rw [if_neg hb]
      have h2 : lastN (b :: r) p.1 = none := by
        unfold lastN
        rw [List.getLast?_eq_none_iff, List.filter_eq_nil_iff]
        exact fun q hq e => hb (List.any_eq_true.2 ⟨q, hq, e⟩)
      have h3 : ¬ a.1 = p.1 := fun e' => hb (List.any_eq_true.2 ⟨b, List.mem_cons_self, by simp [← e, e']⟩)
      rw [h2, if_neg h3]
  | case4 a b r e ih =>
    have h' := List.pairwise_cons.1 h
    rw [ends, if_neg e, List.mem_cons, ih h'.2, lastN_cons a]
    have hab : a.1 < b.1 := by
      have := h'.1 b List.mem_cons_self
      by_cases k : a.1 < b.1
      · exact k
      · exact absurd (str_eq k this) e
    have hno : ∀ q ∈ b :: r, q.1 ≠ a.1 := by
      intro q hq eq
      rcases List.mem_cons.1 hq with rfl | hq
      · exact e eq.symm
      · have := (List.pairwise_cons.1 h'.2).1 q hq
        rw [eq] at this
        exact this hab
    by_cases hb : (b :: r).any (fun q => decide (q.1 = p.1)) = true
    · rw [if_pos hb]
      obtain ⟨q, hq, e2⟩ := List.any_eq_true.1 hb
      have : p ≠ a := fun e3 => hno q hq (by simp at e2; rw [e2, e3])
      simp [this]
    · rw [if_neg hb]
      have h2 : lastN (b :: r) p.1 = none := by
        unfold lastN
        rw [List.getLast?_eq_none_iff, List.filter_eq_nil_iff]
        exact fun q hq e => hb (List.any_eq_true.2 ⟨q, hq, e⟩)
      rw [h2]
      by_cases e3 : a.1 = p.1
      · rw [if_pos e3]
        simp
        exact eq_comm
      · rw [if_neg e3]
        have : p ≠ a := fun e4 => e3 (by rw [e4])
        simp [this]
theorem nodup_of_names {l : List Pr} (h : (l.map (·.1)).Nodup) : l.Nodup := by
  rw [List.Nodup, List.pairwise_map] at h
  exact h.imp fun hab e => hab (by rw [e])
theorem perm_of_mem {l m : List Pr} (hl : (l.map (·.1)).Nodup) (hm : (m.map (·.1)).Nodup) (h : ∀ p, p ∈ l ↔ p ∈ m) : l.Perm m :=
  (List.perm_ext_iff_of_nodup (nodup_of_names hl) (nodup_of_names hm)).2 h
/-- What is sorted by name and keeps the order of each name's pairs: the ends are the last ones. -/
theorem ends_eq {s l : List Pr} (hs : sortedN s) (hst : ∀ n, (s.filter fun p => decide (p.1 = n)) = l.filter fun p => decide (p.1 = n)) : ends s = srt (lastOf l) := by
  refine (srt_of ?_ (ends_rises hs)).symm
  refine perm_of_mem (rises_nodup (ends_rises hs)) (lastOf_nodup l) fun p => ?_
  rw [ends_mem hs, lastOf_mem]
  unfold lastN
  rw [hst]
def latest (l p : List Pr) : List Pr := srt (lastOf (l ++ p))
theorem latest_rises (l p : List Pr) : rises (latest l p) :=
  sorted_rises (srt_sorted _) ((((srt_perm _).map (·.1)).nodup_iff).2 (lastOf_nodup _))
def withE (l p : List Pr) : Int := if fIs l = true then (if fIs (full (latest l p)) = true then 0 else 30) else 30
def withL (l p : List Pr) : List Pr := if withE l p = 0 then full (latest l p) else []
theorem make_latest (l p : List Pr) (h : fIs l = true) : makeE (latest l p) = withE l p ∧ makeL (latest l p) = withL l p := by
  have hr := latest_rises l p
  have ht : twice (latest l p) = false := by unfold twice; simpa using rises_nodup hr
  have hs : srt (full (latest l p)) = full (latest l p) := srt_rises (rises_filter hr _)
  have he : makeE (latest l p) = withE l p := by
    unfold makeE withE
    rw [ht, hs, if_pos h, if_neg (by simp)]
  refine ⟨he, ?_⟩
  unfold makeL withL
  rw [he, hs]
end Go.Proofs.YtcbjhfnlhpallaaGreatDoor
/- Slices of pairs; same, big, Get: each for every slice. -/
namespace Go.Proofs.YtcbjhfnlhpallaaGreatDoor
open Go.RowKit

/-- A text as the model has it. -/
abbrev tx (s : Str) : Value := .string ⟨s.toArray⟩
/-- A slice of pairs: as many as are told. -/
def Ps (w : World) (ao : Option Addr) (n : Nat) (l : List Pr) : Prop :=
  l.length = n ∧ (0 < n → ∃ b off, ao = some ⟨b, off, none⟩ ∧ ∀ j, j < n → w.cell? ⟨b, off + j * 2, none⟩ = some (tx (l.getD j ([], [])).1) ∧ w.cell? ⟨b, off + j * 2 + 1, none⟩ = some (tx (l.getD j ([], [])).2))
theorem Ps.later {w w' : World} {ao : Option Addr} {n : Nat} {l : List Pr} (h : Ps w ao n l) (hb : Below w.heap.size w w') : Ps w' ao n l := by
  obtain ⟨h1, h4⟩ := h
  refine ⟨h1, fun hp => ?_⟩
  obtain ⟨b, off, e, hc⟩ := h4 hp
  exact ⟨b, off, e, fun j hj => ⟨(hb.cell (p := ⟨b, off + j * 2, none⟩) (World.block_lt_of_cell? _ _ (hc j hj).1)).trans (hc j hj).1, (hb.cell (p := ⟨b, off + j * 2 + 1, none⟩) (World.block_lt_of_cell? _ _ (hc j hj).2)).trans (hc j hj).2⟩⟩
theorem Ps.nil (w : World) (ao : Option Addr) : Ps w ao 0 [] := ⟨rfl, fun h => by omega⟩
/-- No text is longer than a text can be. -/
def Fit (l : List Pr) : Prop := ∀ p ∈ l, p.1.length ≤ 9223372036854775807 ∧ p.2.length ≤ 9223372036854775807
theorem Fit.at {l : List Pr} (h : Fit l) (j : Nat) : (l.getD j ([], [])).1.length ≤ 9223372036854775807 ∧ (l.getD j ([], [])).2.length ≤ 9223372036854775807 := by
  by_cases hj : j < l.length
  · rw [List.getD, List.getElem?_eq_getElem hj]
    exact h _ (List.getElem_mem hj)
  · rw [List.getD, List.getElem?_eq_none (by omega)]
    simp

/-- A pair that lies in a block of its own. -/
structure Box (w : World) (b : Nat) (p : Pr) : Prop where
  c0 : w.cell? ⟨b, 0, none⟩ = some (tx p.1)
  c1 : w.cell? ⟨b, 1, none⟩ = some (tx p.2)
  f0 : w.frozen? ⟨b, 0, none⟩ = false
  f1 : w.frozen? ⟨b, 1, none⟩ = false
theorem Box.new (w : World) (p : Pr) : Box (w.alloc (.cells #[tx p.1, tx p.2] 58)) w.heap.size p := by
  constructor <;> simp [go_sem]
theorem Box.later {w w' : World} {b : Nat} {p : Pr} (h : Box w b p) (hb : Below w.heap.size w w') : Box w' b p := by
  have hl : b < w.heap.size := World.block_lt_of_cell? _ _ h.c0
  exact ⟨(hb.cell (p := ⟨b, 0, none⟩) hl).trans h.c0, (hb.cell (p := ⟨b, 1, none⟩) hl).trans h.c1, (hb.frozen (p := ⟨b, 0, none⟩) hl).trans h.f0, (hb.frozen (p := ⟨b, 1, none⟩) hl).trans h.f1⟩
theorem Box.lt {w : World} {b : Nat} {p : Pr} (h : Box w b p) : b < w.heap.size := World.block_lt_of_cell? _ _ h.c0

/-! ### Get -/
theorem getD_at {l : List Pr} {k : Nat} (hk : k < l.length) : l.getD k ([], []) = l[k] := by simp [List.getD, List.getElem?_eq_getElem hk]
theorem get_take_skip {l : List Pr} {n : Str} {k : Nat} (hk : k < l.length) (h : (l.getD k ([], [])).1 ≠ n) : fGet (l.drop k) n = fGet (l.drop (k + 1)) n := by
  rw [List.drop_eq_getElem_cons hk, get_cons]
  rw [getD_at hk] at h
  rw [if_neg h]
theorem get_take_hit {l : List Pr} {n : Str} {k : Nat} (hk : k < l.length) (h : (l.getD k ([], [])).1 = n) : fGet (l.drop k) n = (l.getD k ([], [])).2 := by
  rw [List.drop_eq_getElem_cons hk, get_cons]
  rw [getD_at hk] at *
  rw [if_pos h]

set_option maxHeartbeats 1000000 in
theorem get_any (ao : Option Addr) (n cap : Nat) (l : List Pr) (s : Str) (w : World) (hn : n ≤ 9223372036854775807) (hs : Ps w ao n l) :
    Calls Tryz.prog 67 #[.slice ao n cap, tx s] w fun e w' => e = .returned (tx (fGet l s)) ∧ Below w.heap.size w w' := by
  obtain ⟨hlen, hcell⟩ := hs
  have HL : Hid (l.length = n) := hlen
  clear hlen
  go_enter Tryz.func67, Tryz.ntmps67
  go_wp2
  go_loopw [9] (fun i wr => ∃ j : Nat, j ≤ n ∧ i = .int .i64 j ∧ Hid (fGet l s = fGet (l.drop j) s) ∧ Below w.heap.size w wr) (fun i _ => n - (intOf i).toNat)
  case atStart => exact ⟨0, by omega, rfl, rfl, Below.refl _ _⟩
  case round =>
    obtain ⟨j, hj, rfl, hg, hb⟩ := hrel
    by_cases hlt : j < n
    · obtain ⟨b, off, rfl, hc⟩ := hcell (by omega)
      have hc0 := (hc j hlt).1
      have hc1 := (hc j hlt).2
      have k0 := (hb.cell (p := ⟨b, off + j * 2, none⟩) (World.block_lt_of_cell? _ _ hc0)).trans hc0
      have k1 := (hb.cell (p := ⟨b, off + j * 2 + 1, none⟩) (World.block_lt_of_cell? _ _ hc1)).trans hc1
      have hlt' : j < l.length := by rw [HL.out]; exact hlt
      have HSk : Hid _ := get_take_skip (n := s) hlt'
      have HHi : Hid _ := get_take_hit (n := s) hlt'
      clear hc hcell hc0 hc1 hlt'
      have hb1 : ∀ o, Below w.heap.size w (wr.alloc o) := bal hb
      generalize l.getD j ([], []) = p at *
      obtain ⟨p1, p2⟩ := p
      dsimp only at *
      by_cases he : p1 = s
      · have he' : (p1 == s) = true := by simpa using he
        have HR : Hid (fGet l s = p2) := by show _ = _; rw [hg.out, HHi.out he]
        clear he HSk HHi hg
        go_wp2
        go_ret
        exact ⟨by rw [HR.out]; rfl, hb1 _⟩
      · have he' : (p1 == s) = false := by simpa using he
        have HR : Hid (fGet l s = fGet (l.drop (j + 1)) s) := by show _ = _; rw [hg.out, HSk.out he]
        clear he HSk HHi hg
        go_wp2
        go_roundw
        case rel => exact ⟨j + 1, by omega, by go_num, HR, hb1 _⟩
        case measure => simp [intOf]; omega
    · have HR : Hid (fGet l s = []) := by
        show _ = _
        rw [hg.out, List.drop_eq_nil_of_le (by rw [HL.out]; omega)]
        rfl
      go_wp2
      go_ret
      exact ⟨by rw [HR.out]; rfl, hb⟩
end Go.Proofs.YtcbjhfnlhpallaaGreatDoor
/- same, big: each for every slice. -/
namespace Go.Proofs.YtcbjhfnlhpallaaGreatDoor
open Go.RowKit

theorem fields35 : Tryz.prog.underlying 58 = some (.struct (Tryz.prog.fieldsOf 58)) := by kernel_rfl
theorem stood35 : Tryz.prog.stoodInHeld 58 = false := by kernel_rfl
theorem guard35 : Tryz.prog.eqGuardType Tryz.prog.depth 58 = false := by kernel_rfl
theorem eqIn_pair (p q : Pr) (w : World) : (Op.equalIn 10000 58 (.agg #[tx p.1, tx p.2]) (.agg #[tx q.1, tx q.2])).run Tryz.prog w = .ok (decide (p = q)) w := by
  have u9 := Tryz.underlying9
  have a9 := Tryz.isAgg9
  have z9 := Tryz.sizeOf9
  rw [show (10000 : Nat) = 9999 + 1 from rfl, run_equalIn_agg w 9999 58 _ _ fields35 stood35]
  simp only [Program.fieldsOf, Tryz.underlying58]
  go_simp
  obtain ⟨a, b⟩ := p
  obtain ⟨c, d⟩ := q
  by_cases h1 : a = c <;> by_cases h2 : b = d <;> simp [h1, h2]
theorem neq_pair (p q : Pr) (w : World) : (binOp .neq 58 (.agg #[tx p.1, tx p.2]) (.agg #[tx q.1, tx q.2])).run Tryz.prog w = .ok (.bool (!decide (p = q))) w := by
  rw [run_neq_struct, eqIn_pair]
  rfl
theorem guard_pair (x y : Operand) (xs ys : Array Value) (w : World) : (eqGuard .neq 58 x y (.agg xs) (.agg ys)).run Tryz.prog w = .ok () w := run_eqGuard_agg w .neq 58 x y xs ys guard35

def sameB (a b : List Pr) : Bool := decide (a = b)
theorem same_len {a b : List Pr} (h : a.length ≠ b.length) : sameB a b = false := by
  unfold sameB
  exact decide_eq_false fun e => h (by rw [e])
theorem same_not {a b : List Pr} {j : Nat} (h : a.getD j ([], []) ≠ b.getD j ([], [])) : sameB a b = false := by
  unfold sameB
  exact decide_eq_false fun e => h (by rw [e])
theorem same_all {a b : List Pr} (hl : a.length = b.length) (h : a.take a.length = b.take a.length) : sameB a b = true := by
  unfold sameB
  rw [List.take_length, hl, List.take_length] at h
  exact decide_eq_true h
theorem take_next {a b : List Pr} {j : Nat} (ha : j < a.length) (hb : j < b.length) (h : a.take j = b.take j) (e : a.getD j ([], []) = b.getD j ([], [])) : a.take (j + 1) = b.take (j + 1) := by
  rw [getD_at ha, getD_at hb] at e
  rw [List.take_succ_eq_append_getElem ha, List.take_succ_eq_append_getElem hb, h, e]
theorem below_drewN {B : Nat} {a w : World} (h : Below B a w) (k : Nat) : Below B a (w.drewN k) := ⟨h.os, h.tape, h.output, h.size, h.block⟩

def bigP (p : Pr) : Bool := decide (100 < p.1.length) || decide (100 < p.2.length)
def bigB (l : List Pr) : Bool := l.any bigP || decide (20 < l.length)
theorem big_hit {l : List Pr} {j : Nat} (hj : j < l.length) (h : bigP (l.getD j ([], [])) = true) : bigB l = true := by
  unfold bigB
  rw [getD_at hj] at h
  rw [List.any_eq_true.2 ⟨_, List.getElem_mem hj, h⟩]
  rfl
theorem big_next {l : List Pr} {j : Nat} (hj : j < l.length) (ha : (l.take j).any bigP = false) (h : bigP (l.getD j ([], [])) = false) : (l.take (j + 1)).any bigP = false := by
  rw [getD_at hj] at h
  rw [List.take_succ_eq_append_getElem hj, List.any_append, ha]
  simp [h]
theorem big_all {l : List Pr} {j : Nat} (hj : l.length ≤ j) (ha : (l.take j).any bigP = false) : bigB l = decide (20 < l.length) := by
  rw [List.take_of_length_le hj] at ha
  unfold bigB
  rw [ha]
  rfl
theorem big_not {l : List Pr} (h : bigB l = false) : l.length ≤ 20 ∧ ∀ p ∈ l, p.1.length ≤ 100 ∧ p.2.length ≤ 100 := by
  unfold bigB at h
  rw [Bool.or_eq_false_iff] at h
  refine ⟨by simpa using h.2, fun p hp => ?_⟩
  have := List.any_eq_false.1 h.1 p hp
  unfold bigP at this
  simp at this
  omega
end Go.Proofs.YtcbjhfnlhpallaaGreatDoor
/-
  DERIVED: THE SHELF's CONTRACTS AT THIS DUMP, IN PLAIN WORDS (tools/lay-plain.mjs out of 'TrydShelf.lean', which tools/lay-shelf.mjs wrote): THE SAME DECLARATIONS UNDER THE SAME NAMES: 'import', 'namespace', 'open', 'def', 'theorem' AND NOTHING ELSE: no command of the shelf's: FOR A HAND-IN. Each laying: the table of numbers ('.._ren') and one theorem, a field a fact of the dump's own or the kernel's comparison; each contract: ONE APPLICATION.
-/
namespace Go.Proofs
open Go.Shelf
def Tryz.lays106_ren : Go.Shelf.Ren := ⟨fun | 106 => 130 | 213 => 164 | 265 => 183 | n => n, fun | 9 => 9 | 3 => 3 | n => n, fun | n => n⟩
theorem Tryz.lays106 : Go.Proofs.Lays.n106 Tryz.prog Tryz.lays106_ren := {
  mixed := by kernel_rfl
  f106 := Tryz.func130.trans (congrArg some (by kernel_rfl))
  f213 := Tryz.func164.trans (congrArg some (by kernel_rfl))
  f265 := Tryz.func183.trans (congrArg some (by kernel_rfl))
  t3 := Tryz.underlying3
  a3 := Tryz.isAgg3
  z3 := Tryz.sizeOf3
  v3 := Tryz.zeroValue3
  t9 := Tryz.underlying9
  a9 := Tryz.isAgg9
  z9 := Tryz.sizeOf9
  v9 := Tryz.zeroValue9 }
open Go.RowKit in
/-- strings.Compare: "Compare returns an integer comparing two strings lexicographically. The result will be 0 if a == b, -1 if a < b, and +1 if a > b.": IT RETURNS 'Lib.compareBytes a b'; the world is as it was. (LAID: no walk: one application.) -/
theorem Tryz.strings_Compare (a b : ByteArray) (w : World) :
    Calls Tryz.prog 130 #[.string a, .string b] w fun e w' => e = .returned (.int .i64 (Lib.compareBytes a.data.toList b.data.toList)) ∧ w' = w := Any.strings_Compare Tryz.lays106 a b w
def Tryz.lays144_ren : Go.Shelf.Ren := ⟨fun | 144 => 115 | 143 => 95 | 219 => 127 | 217 => 151 | 225 => 152 | 224 => 153 | 267 => 154 | 266 => 176 | 314 => 177 | n => n, fun | 9 => 9 | 4 => 4 | 3 => 3 | 5 => 5 | 46 => 165 | 146 => 203 | 51 => 50 | n => n, fun | 1 => 1 | n => n⟩
theorem Tryz.lays144 : Go.Proofs.Lays.n144 Tryz.prog Tryz.lays144_ren := {
  mixed := by kernel_rfl
  f143 := Tryz.func95.trans (congrArg some (by kernel_rfl))
  f144 := Tryz.func115.trans (congrArg some (by kernel_rfl))
  f217 := Tryz.func151.trans (congrArg some (by kernel_rfl))
  f219 := Tryz.func127.trans (congrArg some (by kernel_rfl))
  f224 := Tryz.func153.trans (congrArg some (by kernel_rfl))
  f225 := Tryz.func152.trans (congrArg some (by kernel_rfl))
  f266 := Tryz.func176.trans (congrArg some (by kernel_rfl))
  f267 := Tryz.func154.trans (congrArg some (by kernel_rfl))
  f314 := Tryz.func177.trans (congrArg some (by kernel_rfl))
  t3 := Tryz.underlying3
  a3 := Tryz.isAgg3
  z3 := Tryz.sizeOf3
  v3 := Tryz.zeroValue3
  t4 := Tryz.underlying4
  a4 := Tryz.isAgg4
  z4 := Tryz.sizeOf4
  v4 := Tryz.zeroValue4
  t5 := Tryz.underlying5
  a5 := Tryz.isAgg5
  z5 := Tryz.sizeOf5
  v5 := Tryz.zeroValue5
  t9 := Tryz.underlying9
  a9 := Tryz.isAgg9
  z9 := Tryz.sizeOf9
  v9 := Tryz.zeroValue9
  t46 := Tryz.underlying165
  a46 := Tryz.isAgg165
  z46 := Tryz.sizeOf165
  v46 := Tryz.zeroValue165
  t51 := Tryz.underlying50
  a51 := Tryz.isAgg50
  z51 := Tryz.sizeOf50
  v51 := Tryz.zeroValue50
  t146 := Tryz.underlying203
  a146 := Tryz.isAgg203
  z146 := Tryz.sizeOf203
  v146 := Tryz.zeroValue203
  g1 := by kernel_rfl }
open Go.RowKit Go.Lib in
/-- strings.Contains: "Contains reports whether substr is within s.": AT A substr OF ONE BYTE c: IT RETURNS 'decide (0 ≤ Lib.indexByte s c)'; the world is as it was. (LAID: no walk: one application.) -/
theorem Tryz.strings_Contains_one (s : ByteArray) (c : UInt8) (w : World) :
    Calls Tryz.prog 115 #[.string s, .string ⟨#[c]⟩] w fun e w' => e = .returned (.bool (decide (0 ≤ Lib.indexByte s.data.toList c))) ∧ w' = w := Any.strings_Contains_one Tryz.lays144 s c w
def Tryz.lays145_ren : Go.Shelf.Ren := ⟨fun | 145 => 69 | 220 => 110 | 219 => 127 | 217 => 151 | 225 => 152 | 224 => 153 | 267 => 154 | 266 => 176 | 314 => 177 | n => n, fun | 9 => 9 | 4 => 4 | 59 => 114 | 3 => 3 | 5 => 5 | 46 => 165 | 146 => 203 | 51 => 50 | n => n, fun | 1 => 1 | n => n⟩
theorem Tryz.lays145 : Go.Proofs.Lays.n145 Tryz.prog Tryz.lays145_ren := {
  mixed := by kernel_rfl
  f145 := Tryz.func69.trans (congrArg some (by kernel_rfl))
  f217 := Tryz.func151.trans (congrArg some (by kernel_rfl))
  f219 := Tryz.func127.trans (congrArg some (by kernel_rfl))
  f220 := Tryz.func110.trans (congrArg some (by kernel_rfl))
  f224 := Tryz.func153.trans (congrArg some (by kernel_rfl))
  f225 := Tryz.func152.trans (congrArg some (by kernel_rfl))
  f266 := Tryz.func176.trans (congrArg some (by kernel_rfl))
  f267 := Tryz.func154.trans (congrArg some (by kernel_rfl))
  f314 := Tryz.func177.trans (congrArg some (by kernel_rfl))
  t3 := Tryz.underlying3
  a3 := Tryz.isAgg3
  z3 := Tryz.sizeOf3
  v3 := Tryz.zeroValue3
  t4 := Tryz.underlying4
  a4 := Tryz.isAgg4
  z4 := Tryz.sizeOf4
  v4 := Tryz.zeroValue4
  t5 := Tryz.underlying5
  a5 := Tryz.isAgg5
  z5 := Tryz.sizeOf5
  v5 := Tryz.zeroValue5
  t9 := Tryz.underlying9
  a9 := Tryz.isAgg9
  z9 := Tryz.sizeOf9
  v9 := Tryz.zeroValue9
  t46 := Tryz.underlying165
  a46 := Tryz.isAgg165
  z46 := Tryz.sizeOf165
  v46 := Tryz.zeroValue165
  t51 := Tryz.underlying50
  a51 := Tryz.isAgg50
  z51 := Tryz.sizeOf50
  v51 := Tryz.zeroValue50
  t59 := Tryz.underlying114
  a59 := Tryz.isAgg114
  z59 := Tryz.sizeOf114
  v59 := Tryz.zeroValue114
  t146 := Tryz.underlying203
  a146 := Tryz.isAgg203
  z146 := Tryz.sizeOf203
  v146 := Tryz.zeroValue203
  g1 := by kernel_rfl }
open Go.RowKit Go.Lib in
/-- strings.Cut: "Cut slices s around the first instance of sep, returning the text before and after sep. The found result reports whether sep appears in s. If sep does not appear in s, cut returns s, "", false.": IT RETURNS 'Lib.cut s sep'; the world is as it was but for the count of draws. (LAID: no walk: one application.) -/
theorem Tryz.strings_Cut (s sep : ByteArray) (m : Int) (w : World) (hs : s.size < 4294967281) (hm : w.cell? ⟨1, 0, none⟩ = some (.int .i64 m)) :
    Calls Tryz.prog 69 #[.string s, .string sep] w fun e w' => e = .returned (.tuple #[.string ⟨(Lib.cut s.data.toList sep.data.toList).1.toArray⟩, .string ⟨(Lib.cut s.data.toList sep.data.toList).2.1.toArray⟩, .bool (Lib.cut s.data.toList sep.data.toList).2.2]) ∧ ∃ n, w' = w.drewN n := Any.strings_Cut Tryz.lays145 s sep m w hs hm
def Tryz.lays101_ren : Go.Shelf.Ren := ⟨fun | 101 => 103 | 208 => 131 | 206 => 135 | n => n, fun | 9 => 9 | 4 => 4 | 3 => 3 | n => n, fun | n => n⟩
theorem Tryz.lays101 : Go.Proofs.Lays.n101 Tryz.prog Tryz.lays101_ren := {
  mixed := by kernel_rfl
  f101 := Tryz.func103.trans (congrArg some (by kernel_rfl))
  f206 := Tryz.func135.trans (congrArg some (by kernel_rfl))
  f208 := Tryz.func131.trans (congrArg some (by kernel_rfl))
  t3 := Tryz.underlying3
  a3 := Tryz.isAgg3
  z3 := Tryz.sizeOf3
  v3 := Tryz.zeroValue3
  t4 := Tryz.underlying4
  a4 := Tryz.isAgg4
  z4 := Tryz.sizeOf4
  v4 := Tryz.zeroValue4
  t9 := Tryz.underlying9
  a9 := Tryz.isAgg9
  z9 := Tryz.sizeOf9
  v9 := Tryz.zeroValue9 }
open Go.RowKit Go.Lib in
/-- strings.TrimPrefix: "TrimPrefix returns s without the provided leading prefix string. If s doesn't start with prefix, s is returned unchanged.": IT RETURNS 'Lib.trimPrefix s prefix'; the world is as it was. (LAID: no walk: one application.) -/
theorem Tryz.strings_TrimPrefix (s p : ByteArray) (w : World) :
    Calls Tryz.prog 103 #[.string s, .string p] w fun e w' => e = .returned (.string ⟨(Lib.trimPrefix s.data.toList p.data.toList).toArray⟩) ∧ w' = w := Any.strings_TrimPrefix Tryz.lays101 s p w
def Tryz.lays110_ren : Go.Shelf.Ren := ⟨fun | 110 => 166 | 109 => 184 | n => n, fun | 31 => 48 | 9 => 9 | 4 => 4 | 3 => 3 | 0 => 0 | n => n, fun | n => n⟩
theorem Tryz.lays110 : Go.Proofs.Lays.n110 Tryz.prog Tryz.lays110_ren := {
  mixed := by kernel_rfl
  f109 := Tryz.func184.trans (congrArg some (by kernel_rfl))
  f110 := Tryz.func166.trans (congrArg some (by kernel_rfl))
  t0 := Tryz.underlying0
  a0 := Tryz.isAgg0
  z0 := Tryz.sizeOf0
  v0 := Tryz.zeroValue0
  t3 := Tryz.underlying3
  a3 := Tryz.isAgg3
  z3 := Tryz.sizeOf3
  v3 := Tryz.zeroValue3
  t4 := Tryz.underlying4
  a4 := Tryz.isAgg4
  z4 := Tryz.sizeOf4
  v4 := Tryz.zeroValue4
  t9 := Tryz.underlying9
  a9 := Tryz.isAgg9
  z9 := Tryz.sizeOf9
  v9 := Tryz.zeroValue9
  t31 := Tryz.underlying48
  a31 := Tryz.isAgg48
  z31 := Tryz.sizeOf48
  v31 := Tryz.zeroValue48 }
open Go.Lib in
/-- slices.Contains at []string: "Contains reports whether v is present in s.": IT RETURNS 'Lib.containsS (the elements) v', which is true just where v is among them ('Lib.containsS_iff'); the world is as it was. ITS CALLEE slices.Index IS MET BY ITS OWN CONTRACT OFF THE SHELF (lay that first): no loop is walked here. (LAID: no walk: one application.) -/
theorem Tryz.slices_Contains_string (b off n c : Nat) (zs : List ByteArray) (x : ByteArray) (w : World) (hz : n ≤ zs.length) (hbig : n ≤ 9223372036854775807) (hc : ∀ j, j < zs.length → w.cell? ⟨b, off + j, none⟩ = some (.string (zs.getD j ByteArray.empty))) :
    Calls Tryz.prog 166 #[.slice (some ⟨b, off, none⟩) n c, .string x] w fun e w' => e = .returned (.bool (Lib.containsS (zs.take n) x)) ∧ w' = w := Any.slices_Contains_string Tryz.lays110 b off n c zs x w hz hbig hc
open Go.Lib in
/-- The same at a slice of length 0, a nil one too. (LAID: no walk: one application.) -/
theorem Tryz.slices_Contains_string_empty (a : Option Addr) (c : Nat) (x : ByteArray) (w : World) :
    Calls Tryz.prog 166 #[.slice a 0 c, .string x] w fun e w' => e = .returned (.bool false) ∧ w' = w := Any.slices_Contains_string_empty Tryz.lays110 a c x w
end Go.Proofs
/- isValue, Is: each for every argument. -/
namespace Go.Proofs.YtcbjhfnlhpallaaGreatDoor
open Go.RowKit

theorem quiet_eq {P : Program} {f : FuncId} {args : Array Value} {w : World} {n : Nat} {v : Value} (h : Calls P f args (w.drewN n) fun e w' => e = .returned v ∧ w.drewN n = w') : Calls P f args (w.drewN n) fun e w'' => e = .returned v ∧ ∃ m, w'' = w.drewN m :=
  h.mono fun _ _ ⟨he, hm⟩ => ⟨he, n, hm.symm⟩
theorem byte_in (l : Str) (c : UInt8) : decide (0 ≤ Lib.indexByte l c) = l.contains c := by
  induction l with
  | nil => rfl
  | cons x l ih =>
    rw [Lib.indexByte, List.contains_cons]
    by_cases h : x = c
    · subst h; simp
    · have h' : ¬ c = x := fun e => h e.symm
      have hge : -1 ≤ Lib.indexByte l c := by
        clear ih
        induction l with
        | nil => simp [Lib.indexByte]
        | cons y l ih =>
          rw [Lib.indexByte]
          split
          · omega
          · split <;> omega
      rw [← ih]
      by_cases h2 : Lib.indexByte l c = -1
      · simp [h, h', h2]
      · have h3 : (Lib.indexByte l c == -1) = false := by simpa using h2
        have h4 : (x == c) = false := by simpa using h
        have h5 : (c == x) = false := by simpa using h'
        rw [h3, h4, h5, if_neg (by simp), if_neg (by simp), Bool.false_or, decide_eq_decide]
        omega
theorem contains_any (s : Str) (w : World) : Calls Tryz.prog 115 #[tx s, .string ⟨#[10]⟩] w fun e w' => e = .returned (.bool (s.contains 10)) ∧ w = w' := by
  refine (Tryz.strings_Contains_one ⟨s.toArray⟩ 10 w).mono ?_
  rintro e w' ⟨rfl, rfl⟩
  exact ⟨by rw [← byte_in], rfl⟩
theorem isValue_any (s : Str) (w : World) (hl : s.length ≤ 9223372036854775807) : Calls Tryz.prog 83 #[tx s] w fun e w' => e = .returned (.bool (fVal s)) ∧ w = w' := by
  have hc := contains_any s
  unfold fVal
  by_cases h1 : 1 ≤ s.length
  · have h1' : (1 : Int) ≤ s.length := by omega
    by_cases h2 : s.length ≤ 30
    · have h2' : (s.length : Int) ≤ 30 := by omega
      generalize s.contains 10 = r at *
      go_enter Tryz.func83, Tryz.ntmps83
      go_wp2_with (go_at_call 115; refine (hc _).mono ?_; rintro e w' ⟨rfl, rfl⟩)
      go_ret
      exact ⟨by simp [h1, h2], rfl⟩
    · have h2' : ¬ (s.length : Int) ≤ 30 := by omega
      go_enter Tryz.func83, Tryz.ntmps83
      go_wp2
      go_ret
      exact ⟨by simp, rfl⟩
  · have h1' : ¬ (1 : Int) ≤ s.length := by omega
    go_enter Tryz.func83, Tryz.ntmps83
    go_wp2
    go_ret
    exact ⟨by simp, rfl⟩

theorem is_not {l : List Pr} {j : Nat} (hj : j < l.length) (h : okAt l j = false) : fIs l = false := by
  cases hi : fIs l with
  | false => rfl
  | true =>
    unfold fIs at hi
    rw [Bool.and_eq_true] at hi
    rw [List.all_eq_true.1 hi.2 j (List.mem_range.2 hj)] at h
    cases h
theorem is_all {l : List Pr} (h8 : l.length ≤ 8) (h : ∀ i, i < l.length → okAt l i = true) : fIs l = true := by
  unfold fIs
  rw [Bool.and_eq_true]
  exact ⟨decide_eq_true h8, List.all_eq_true.2 fun i hi => h i (List.mem_range.1 hi)⟩

set_option maxHeartbeats 2000000 in
theorem is_any (xa : Option Addr) (n c : Nat) (l : List Pr) (w : World) (hn : n ≤ 9223372036854775807) (hf : Fit l) (hx : Ps w xa n l) :
    Calls Tryz.prog 44 #[.slice xa n c] w fun e w' => e = .returned (.bool (fIs l)) ∧ Below w.heap.size w w' := by
  obtain ⟨hla, hca⟩ := hx
  have HA : Hid (l.length = n) := hla
  clear hla
  by_cases h8 : n ≤ 8
  · have h8' : ¬ (8 : Int) < n := by omega
    go_enter Tryz.func44, Tryz.ntmps44
    go_wp2
    go_loopw [10] (fun i wr => ∃ j : Nat, j ≤ n ∧ i = .int .i64 j ∧ Hid (∀ i, i < j → okAt l i = true) ∧ Below w.heap.size w wr) (fun i _ => n - (intOf i).toNat)
    case atStart => exact ⟨0, by omega, rfl, fun i h => by omega, Below.refl _ _⟩
    case round =>
      obtain ⟨j, hj, rfl, ht, hb⟩ := hrel
      by_cases hlt : j < n
      · obtain ⟨b1, o1, rfl, h1⟩ := hca (by omega)
        obtain ⟨c10, c11⟩ := h1 j hlt
        have k0 := (hb.cell (p := ⟨b1, o1 + j * 2, none⟩) (World.block_lt_of_cell? _ _ c10)).trans c10
        have k1 := (hb.cell (p := ⟨b1, o1 + j * 2 + 1, none⟩) (World.block_lt_of_cell? _ _ c11)).trans c11
        have HN : Hid (okAt l j = true → ∀ i, i < j + 1 → okAt l i = true) := fun h i hi => by
          by_cases e : i = j
          · rw [e]; exact h
          · exact ht.out i (by omega)
        have HF : Hid (okAt l j = false → fIs l = false) := is_not (by rw [HA.out]; exact hlt)
        have hfa := hf.at j
        have hnm := fun w => name_any (l.getD j ([], [])).1 w hfa.1
        have hvl := fun w => isValue_any (l.getD j ([], [])).2 w hfa.2
        have HO : Hid (okAt l j = (fName (l.getD j ([], [])).1 && fVal (l.getD j ([], [])).2 && (decide (j = 0) || decide ((l.getD (j - 1) ([], [])).1 < (l.getD j ([], [])).1)))) := rfl
        have hb1 : ∀ o, Below w.heap.size w (wr.alloc o) := bal hb
        clear hfa
        by_cases h0 : j = 0
        · have h0' : ¬ (0 : Int) < j := by omega
          have h0d : decide (0 < j) = false := decide_eq_false (by omega)
          have HO' : Hid (okAt l j = (fName (l.getD j ([], [])).1 && fVal (l.getD j ([], [])).2)) := by
            show _ = _
            rw [HO.out, h0]; simp
          clear h1 hca c10 c11 HO
          generalize okAt l j = ok at *
          generalize l.getD j ([], []) = p at *
          obtain ⟨p1, p2⟩ := p
          dsimp only at *
          cases hN : fName p1 with
          | false =>
            have HR : Hid (fIs l = false) := HF.out (by rw [HO'.out, hN]; rfl)
            rw [hN] at hnm
            clear HO' HF HN hN h0
            go_wp2
            go_quiet ((first | (go_at_call 66; exact quiet_eq (hnm _)) | (go_at_call 83; exact quiet_eq (hvl _))))
            go_wp2
            go_ret
            exact ⟨by rw [HR.out]; rfl, below_drewN (hb1 _) _⟩
          | true =>
            rw [hN] at hnm
            cases hV : fVal p2 with
            | false =>
              have HR : Hid (fIs l = false) := HF.out (by rw [HO'.out, hN, hV]; rfl)
              rw [hV] at hvl
              clear HO' HF HN hN hV h0
              go_wp2
              go_quiet ((first | (go_at_call 66; exact quiet_eq (hnm _)) | (go_at_call 83; exact quiet_eq (hvl _))))
              go_wp2
              go_ret
              exact ⟨by rw [HR.out]; rfl, below_drewN (hb1 _) _⟩
            | true =>
              have HR : Hid (∀ i, i < j + 1 → okAt l i = true) := HN.out (by rw [HO'.out, hN, hV]; rfl)
              rw [hV] at hvl
              clear HO' HF HN hN hV h0
              go_wp2
              go_quiet ((first | (go_at_call 66; exact quiet_eq (hnm _)) | (go_at_call 83; exact quiet_eq (hvl _))))
              go_wp2
              go_roundw
              case rel => exact ⟨j + 1, by omega, by go_num, HR, below_drewN (hb1 _) _⟩
              case measure => simp [intOf]; omega
        · obtain ⟨k, rfl⟩ : ∃ k, j = k + 1 := ⟨j - 1, by omega⟩
          obtain ⟨c00, _⟩ := h1 k (by omega)
          have kk := (hb.cell (p := ⟨b1, o1 + k * 2, none⟩) (World.block_lt_of_cell? _ _ c00)).trans c00
          have kn : ∀ o, (wr.alloc o).cell? ⟨b1, o1 + k * 2, none⟩ = some (tx (l.getD k ([], [])).1) := fun o => ((bal (Below.refl _ wr) o).cell (p := ⟨b1, o1 + k * 2, none⟩) (World.block_lt_of_cell? _ _ kk)).trans kk
          have HO' : Hid (okAt l (k + 1) = (fName (l.getD (k + 1) ([], [])).1 && fVal (l.getD (k + 1) ([], [])).2 && decide ((l.getD k ([], [])).1 < (l.getD (k + 1) ([], [])).1))) := by
            show _ = _
            rw [HO.out]; simp
          have h0d : decide ((0 : Int) < ((k + 1 : Nat) : Int)) = true := decide_eq_true (by omega)
          have hlss := less_eq (l.getD k ([], [])).1 (l.getD (k + 1) ([], [])).1
          clear h1 hca c10 c11 HO c00 kk
          generalize okAt l (k + 1) = ok at *
          generalize l.getD (k + 1) ([], []) = p at *
          generalize l.getD k ([], []) = q at *
          obtain ⟨p1, p2⟩ := p
          obtain ⟨q1, q2⟩ := q
          dsimp only at *
          cases hN : fName p1 with
          | false =>
            have HR : Hid (fIs l = false) := HF.out (by rw [HO'.out, hN]; rfl)
            rw [hN] at hnm
            clear HO' HF HN hN h0 hlss
            go_wp2
            go_quiet ((first | (go_at_call 66; exact quiet_eq (hnm _)) | (go_at_call 83; exact quiet_eq (hvl _))))
            go_wp2
            go_ret
            exact ⟨by rw [HR.out]; rfl, below_drewN (hb1 _) _⟩
          | true =>
            rw [hN] at hnm
            cases hV : fVal p2 with
            | false =>
              have HR : Hid (fIs l = false) := HF.out (by rw [HO'.out, hN, hV]; rfl)
              rw [hV] at hvl
              clear HO' HF HN hN hV h0 hlss
              go_wp2
              go_quiet ((first | (go_at_call 66; exact quiet_eq (hnm _)) | (go_at_call 83; exact quiet_eq (hvl _))))
              go_wp2
              go_ret
              exact ⟨by rw [HR.out]; rfl, below_drewN (hb1 _) _⟩
            | true =>
              rw [hV] at hvl
              by_cases hq : q1 < p1
              · have HR : Hid (∀ i, i < k + 1 + 1 → okAt l i = true) := HN.out (by rw [HO'.out, hN, hV]; simpa using hq)
                rw [decide_eq_true hq] at hlss
                clear HO' HF HN hN hV h0 hq
                go_wp2
                go_quiet ((first | (go_at_call 66; exact quiet_eq (hnm _)) | (go_at_call 83; exact quiet_eq (hvl _))))
                go_wp2
                go_roundw
                case rel => exact ⟨k + 1 + 1, by omega, by go_num, HR, below_drewN (hb1 _) _⟩
                case measure => simp [intOf]; omega
              · have HR : Hid (fIs l = false) := HF.out (by rw [HO'.out, hN, hV]; simpa using hq)
                rw [decide_eq_false hq] at hlss
                clear HO' HF HN hN hV h0 hq
                go_wp2
                go_quiet ((first | (go_at_call 66; exact quiet_eq (hnm _)) | (go_at_call 83; exact quiet_eq (hvl _))))
                go_wp2
                go_ret
                exact ⟨by rw [HR.out]; rfl, below_drewN (hb1 _) _⟩
      · have HT' : Hid (fIs l = true) := is_all (by rw [HA.out]; omega) (fun i hi => ht.out i (by rw [HA.out] at hi; omega))
        go_wp2
        go_ret
        exact ⟨by rw [HT'.out]; rfl, hb⟩
  · have h8' : (8 : Int) < n := by omega
    have HT' : Hid (fIs l = false) := by
      show _ = _
      unfold fIs
      rw [decide_eq_false (by rw [HA.out]; omega)]
      rfl
    go_enter Tryz.func44, Tryz.ntmps44
    go_wp2
    go_ret
    exact ⟨by rw [HT'.out]; rfl, Below.refl _ _⟩
end Go.Proofs.YtcbjhfnlhpallaaGreatDoor
/-
  DERIVED: THE SHELF's CONTRACTS AT THIS DUMP, IN PLAIN WORDS (tools/lay-plain.mjs out of 'TrydShelf.lean', which tools/lay-shelf.mjs wrote): THE SAME DECLARATIONS UNDER THE SAME NAMES: 'import', 'namespace', 'open', 'def', 'theorem' AND NOTHING ELSE: no command of the shelf's: FOR A HAND-IN. Each laying: the table of numbers ('.._ren') and one theorem, a field a fact of the dump's own or the kernel's comparison; each contract: ONE APPLICATION.
-/
namespace Go.Proofs
open Go.Shelf
def Tryz.sortP_ren : Go.Shelf.Ren := ⟨fun | 6 => 98 | 15 => 129 | 14 => 128 | 28 => 163 | 29 => 144 | 20 => 155 | 21 => 156 | 22 => 157 | 23 => 158 | 24 => 159 | 25 => 160 | 26 => 161 | 27 => 162 | 46 => 178 | 47 => 179 | 48 => 180 | 49 => 181 | 50 => 182 | 57 => 188 | n => n, fun | 22 => 30 | 24 => 58 | 25 => 143 | 3 => 3 | 39 => 165 | 0 => 0 | 53 => 50 | 55 => 56 | 4 => 4 | 46 => 185 | 45 => 184 | 50 => 87 | 5 => 5 | 9 => 9 | 66 => 205 | 70 => 209 | 76 => 219 | 77 => 220 | n => n, fun | n => n⟩
theorem Tryz.sortP : Go.Proofs.SlLaysF0.n6 Tryz.prog Tryz.sortP_ren := {
  mixed := by kernel_rfl
  f6 := ⟨Tryz.f98.name, by decide, Tryz.func98.trans (congrArg some (by kernel_rfl))⟩
  f14 := ⟨Tryz.f128.name, by decide, Tryz.func128.trans (congrArg some (by kernel_rfl))⟩
  f15 := Tryz.func129.trans (congrArg some (by kernel_rfl))
  f20 := ⟨Tryz.f155.name, by decide, Tryz.func155.trans (congrArg some (by kernel_rfl))⟩
  f21 := ⟨Tryz.f156.name, by decide, Tryz.func156.trans (congrArg some (by kernel_rfl))⟩
  f22 := ⟨Tryz.f157.name, by decide, Tryz.func157.trans (congrArg some (by kernel_rfl))⟩
  f23 := ⟨Tryz.f158.name, by decide, Tryz.func158.trans (congrArg some (by kernel_rfl))⟩
  f24 := ⟨Tryz.f159.name, by decide, Tryz.func159.trans (congrArg some (by kernel_rfl))⟩
  f25 := ⟨Tryz.f160.name, by decide, Tryz.func160.trans (congrArg some (by kernel_rfl))⟩
  f26 := ⟨Tryz.f161.name, by decide, Tryz.func161.trans (congrArg some (by kernel_rfl))⟩
  f27 := ⟨Tryz.f162.name, by decide, Tryz.func162.trans (congrArg some (by kernel_rfl))⟩
  f28 := Tryz.func163.trans (congrArg some (by kernel_rfl))
  f29 := Tryz.func144.trans (congrArg some (by kernel_rfl))
  f46 := ⟨Tryz.f178.name, by decide, Tryz.func178.trans (congrArg some (by kernel_rfl))⟩
  f47 := Tryz.func179.trans (congrArg some (by kernel_rfl))
  f48 := Tryz.func180.trans (congrArg some (by kernel_rfl))
  f49 := ⟨Tryz.f181.name, by decide, Tryz.func181.trans (congrArg some (by kernel_rfl))⟩
  f50 := ⟨Tryz.f182.name, by decide, Tryz.func182.trans (congrArg some (by kernel_rfl))⟩
  f57 := ⟨Tryz.f188.name, by decide, Tryz.func188.trans (congrArg some (by kernel_rfl))⟩
  t0 := Tryz.underlying0
  a0 := Tryz.isAgg0
  z0 := Tryz.sizeOf0
  v0 := Tryz.zeroValue0
  t3 := Tryz.underlying3
  a3 := Tryz.isAgg3
  z3 := Tryz.sizeOf3
  v3 := Tryz.zeroValue3
  t4 := Tryz.underlying4
  a4 := Tryz.isAgg4
  z4 := Tryz.sizeOf4
  v4 := Tryz.zeroValue4
  t5 := Tryz.underlying5
  a5 := Tryz.isAgg5
  z5 := Tryz.sizeOf5
  v5 := Tryz.zeroValue5
  t9 := Tryz.underlying9
  a9 := Tryz.isAgg9
  z9 := Tryz.sizeOf9
  v9 := Tryz.zeroValue9
  t22 := Tryz.underlying30
  a22 := Tryz.isAgg30
  z22 := Tryz.sizeOf30
  v22 := Tryz.zeroValue30
  t25 := Tryz.underlying143
  a25 := Tryz.isAgg143
  z25 := Tryz.sizeOf143
  v25 := Tryz.zeroValue143
  t39 := Tryz.underlying165
  a39 := Tryz.isAgg165
  z39 := Tryz.sizeOf165
  v39 := Tryz.zeroValue165
  t45 := Tryz.underlying184
  a45 := Tryz.isAgg184
  z45 := Tryz.sizeOf184
  v45 := Tryz.zeroValue184
  t46 := Tryz.underlying185
  a46 := Tryz.isAgg185
  z46 := Tryz.sizeOf185
  v46 := Tryz.zeroValue185
  t50 := Tryz.underlying87
  a50 := Tryz.isAgg87
  z50 := Tryz.sizeOf87
  v50 := Tryz.zeroValue87
  t53 := Tryz.underlying50
  a53 := Tryz.isAgg50
  z53 := Tryz.sizeOf50
  v53 := Tryz.zeroValue50
  t55 := Tryz.underlying56
  a55 := Tryz.isAgg56
  z55 := Tryz.sizeOf56
  v55 := Tryz.zeroValue56
  t66 := Tryz.underlying205
  a66 := Tryz.isAgg205
  z66 := Tryz.sizeOf205
  v66 := Tryz.zeroValue205
  t70 := Tryz.underlying209
  a70 := Tryz.isAgg209
  z70 := Tryz.sizeOf209
  v70 := Tryz.zeroValue209
  t76 := Tryz.underlying219
  a76 := Tryz.isAgg219
  z76 := Tryz.sizeOf219
  v76 := Tryz.zeroValue219
  t77 := Tryz.underlying220
  a77 := Tryz.isAgg220
  z77 := Tryz.sizeOf220
  v77 := Tryz.zeroValue220 }
def Tryz.insP_ren : Go.Shelf.Ren := ⟨fun | 20 => 155 | n => n, fun | 24 => 58 | 22 => 30 | 3 => 3 | 25 => 143 | 4 => 4 | 0 => 0 | n => n, fun | n => n⟩
theorem Tryz.insP : Go.Proofs.SlLaysF0.n20 Tryz.prog Tryz.insP_ren := {
  mixed := by kernel_rfl
  f20 := ⟨Tryz.f155.name, by decide, Tryz.func155.trans (congrArg some (by kernel_rfl))⟩
  t0 := Tryz.underlying0
  a0 := Tryz.isAgg0
  z0 := Tryz.sizeOf0
  v0 := Tryz.zeroValue0
  t3 := Tryz.underlying3
  a3 := Tryz.isAgg3
  z3 := Tryz.sizeOf3
  v3 := Tryz.zeroValue3
  t4 := Tryz.underlying4
  a4 := Tryz.isAgg4
  z4 := Tryz.sizeOf4
  v4 := Tryz.zeroValue4
  t22 := Tryz.underlying30
  a22 := Tryz.isAgg30
  z22 := Tryz.sizeOf30
  v22 := Tryz.zeroValue30
  t25 := Tryz.underlying143
  a25 := Tryz.isAgg143
  z25 := Tryz.sizeOf143
  v25 := Tryz.zeroValue143 }
def Tryz.cloneP_ren : Go.Shelf.Ren := ⟨fun | 41 => 97 | n => n, fun | 22 => 30 | 23 => 58 | 4 => 4 | n => n, fun | n => n⟩
theorem Tryz.cloneP : Go.Proofs.SlLaysE0.n41 Tryz.prog Tryz.cloneP_ren := {
  mixed := by kernel_rfl
  f41 := ⟨Tryz.f97.name, by decide, Tryz.func97.trans (congrArg some (by kernel_rfl))⟩
  t4 := Tryz.underlying4
  a4 := Tryz.isAgg4
  z4 := Tryz.sizeOf4
  v4 := Tryz.zeroValue4
  t22 := Tryz.underlying30
  a22 := Tryz.isAgg30
  z22 := Tryz.sizeOf30
  v22 := Tryz.zeroValue30 }
end Go.Proofs
/- byName, byNameThenValue, slices.CompareFunc at these, Cmp: each for every argument. -/
namespace Go.Proofs.YtcbjhfnlhpallaaGreatDoor
open Go.RowKit Go.Shelf Go.Lib Go.Sort

theorem compare_any (a b : Str) (w : World) : Calls Tryz.prog 130 #[tx a, tx b] w fun e w' => e = .returned (.int .i64 (Lib.compareBytes a b)) ∧ w = w' := by
  refine (Tryz.strings_Compare ⟨a.toArray⟩ ⟨b.toArray⟩ w).mono ?_
  rintro e w' ⟨rfl, rfl⟩
  exact ⟨rfl, rfl⟩
theorem byName_grow (p q : Pr) (w : World) : Calls Tryz.prog 99 #[.agg #[tx p.1, tx p.2], .agg #[tx q.1, tx q.2]] w fun e w' => e = .returned (.int .i64 (Lib.compareBytes p.1 q.1)) ∧ ∃ k os', w' = grow (w.drewN k) os' := by
  have hc := compare_any p.1 q.1
  generalize Lib.compareBytes p.1 q.1 = r at hc ⊢
  go_enter Tryz.func99, Tryz.ntmps99
  go_wp2_with (go_at_call 130; refine (hc _).mono ?_; rintro e w' ⟨rfl, rfl⟩)
  go_ret
  exact ⟨rfl, 0, _, by rw [alloc_eq_grow, alloc_eq_grow, grow_grow]; rfl⟩
theorem byName_any (p q : Pr) (w : World) : Calls Tryz.prog 99 #[.agg #[tx p.1, tx p.2], .agg #[tx q.1, tx q.2]] w fun e w' => e = .returned (.int .i64 (Lib.compareBytes p.1 q.1)) ∧ Below w.heap.size w w' := by
  have hc := compare_any p.1 q.1
  generalize Lib.compareBytes p.1 q.1 = r at hc ⊢
  go_enter Tryz.func99, Tryz.ntmps99
  go_wp2_with (go_at_call 130; refine (hc _).mono ?_; rintro e w' ⟨rfl, rfl⟩)
  go_ret
  exact ⟨rfl, bal (bal (Below.refl _ _) _) _⟩
/-- What is left to compare behind j pairs. -/
theorem cmp_drop_eq {a b : List Pr} {j : Nat} (ha : j < a.length) (hb : j < b.length) (h : pCmp (a.getD j ([], [])) (b.getD j ([], [])) = 0) : fCmp (a.drop j) (b.drop j) = fCmp (a.drop (j + 1)) (b.drop (j + 1)) := by
  rw [List.drop_eq_getElem_cons ha, List.drop_eq_getElem_cons hb, fCmp]
  rw [getD_at ha, getD_at hb] at h
  rw [if_pos h]
theorem cmp_drop_ne {a b : List Pr} {j : Nat} (ha : j < a.length) (hb : j < b.length) (h : pCmp (a.getD j ([], [])) (b.getD j ([], [])) ≠ 0) : fCmp (a.drop j) (b.drop j) = pCmp (a.getD j ([], [])) (b.getD j ([], [])) := by
  rw [List.drop_eq_getElem_cons ha, List.drop_eq_getElem_cons hb, fCmp]
  rw [getD_at ha, getD_at hb] at *
  rw [if_neg h]
theorem cmp_long {a b : List Pr} {j : Nat} (ha : j < a.length) (hb : b.length ≤ j) : fCmp (a.drop j) (b.drop j) = 1 := by
  rw [List.drop_eq_getElem_cons ha, List.drop_eq_nil_of_le hb, fCmp]
theorem cmp_end {a b : List Pr} {j : Nat} (ha : a.length ≤ j) : fCmp (a.drop j) (b.drop j) = if j < b.length then -1 else 0 := by
  rw [List.drop_eq_nil_of_le ha]
  by_cases h : j < b.length
  · rw [if_pos h, List.drop_eq_getElem_cons h, fCmp]
  · rw [if_neg h, List.drop_eq_nil_of_le (by omega), fCmp]

end Go.Proofs.YtcbjhfnlhpallaaGreatDoor
/- only: the pairs that are wanted, in new memory. -/
namespace Go.Proofs.YtcbjhfnlhpallaaGreatDoor
open Go.RowKit

/-- A slice's cells, one behind the other. -/
def cellsP (l : List Pr) : List Value := l.flatMap fun p => [tx p.1, tx p.2]
theorem cellsP_nil : cellsP [] = [] := rfl
theorem cellsP_cons (p : Pr) (l : List Pr) : cellsP (p :: l) = tx p.1 :: tx p.2 :: cellsP l := rfl
theorem cellsP_append (l m : List Pr) : cellsP (l ++ m) = cellsP l ++ cellsP m := by simp [cellsP]
theorem cellsP_length (l : List Pr) : (cellsP l).length = l.length * 2 := by
  induction l with
  | nil => rfl
  | cons p l ih => rw [cellsP_cons]; simp; omega
theorem cellsP_one (l : List Pr) : ∀ u ∈ cellsP l, u.oneCell' = true := by
  intro u hu
  induction l with
  | nil => cases hu
  | cons p l ih =>
    rw [cellsP_cons] at hu
    rcases List.mem_cons.1 hu with rfl | hu
    · rfl
    · rcases List.mem_cons.1 hu with rfl | hu
      · rfl
      · exact ih hu
theorem cellsP_get {l : List Pr} {j : Nat} (h : j < l.length) : (cellsP l)[j * 2]? = some (tx (l.getD j ([], [])).1) ∧ (cellsP l)[j * 2 + 1]? = some (tx (l.getD j ([], [])).2) := by
  induction l generalizing j with
  | nil => simp at h
  | cons p l ih =>
    rw [cellsP_cons]
    cases j with
    | zero => simp
    | succ j =>
      have := ih (j := j) (by simpa using h)
      have e : (j + 1) * 2 = j * 2 + 1 + 1 := by omega
      rw [e]
      simpa using this
theorem info35 : (Tryz.prog.info? 58).map (fun i => (i.zero, i.size, i.bytes)) = some (some (.agg #[tx [], tx []]), 2, 32) := by kernel_rfl
theorem info_parts35 : ∃ i, Tryz.prog.info? 58 = some i ∧ i.zero = some (.agg #[tx [], tx []]) ∧ i.size = 2 ∧ i.bytes = 32 := by
  have h := info35
  cases hi : Tryz.prog.info? 58 with
  | none => rw [hi] at h; cases h
  | some i =>
    rw [hi] at h
    simp only [Option.map_some, Option.some.injEq, Prod.mk.injEq] at h
    exact ⟨i, rfl, h.1, h.2.1, h.2.2⟩
theorem zero35 : (Value.agg #[tx [], tx []]).cells.size = 2 := by kernel_rfl
/-- New memory of its own that holds these pairs. -/
def Own (w : World) (base : Nat) (v : Value) (l : List Pr) : Prop := w.ownsRow base 58 2 v l.length (cellsP l)
theorem Own.slice {w : World} {base : Nat} {v : Value} {l : List Pr} (h : Own w base v l) : ∃ ao cap, v = .slice ao l.length cap ∧ Ps w ao l.length l ∧ l.length ≤ cap := by
  rcases h.2 with ⟨rfl, h0⟩ | ⟨g, cap, cur, rfl, hb, hg, hn, _, hs, ht⟩
  · have : l = [] := List.length_eq_zero_iff.1 h0
    subst this
    exact ⟨none, 0, rfl, Ps.nil _ _, Nat.le_refl _⟩
  · refine ⟨_, cap, rfl, ⟨rfl, fun _ => ⟨g, 0, rfl, fun j hj => ?_⟩⟩, hn⟩
    have e : ∀ i, i < l.length * 2 → w.cell? ⟨g, 0 + i, none⟩ = (cellsP l)[i]? := fun i hi => by
      rw [cell_of_row _ _ _ _ _ _ hg, ← ht, List.getElem?_take_of_lt hi, Nat.zero_add]
      exact (Array.getElem?_toList).symm
    obtain ⟨g1, g2⟩ := cellsP_get hj
    exact ⟨(e _ (by omega)).trans g1, (e (j * 2 + 1) (by omega)).trans g2⟩

theorem Own.later {w w' : World} {base : Nat} {v : Value} {l : List Pr} (h : Own w base v l) (hb : Below w.heap.size w w') : Own w' base v l := by
  refine ⟨h.1, ?_⟩
  rcases h.2 with h0 | ⟨g, cap, cur, hv, hg0, hg, hn, hm, hs, ht⟩
  · exact Or.inl h0
  · have hlt : g < w.heap.size := by
      by_cases hlt : g < w.heap.size
      · exact hlt
      · rw [Array.getElem?_eq_none (by omega)] at hg; cases hg
    exact Or.inr ⟨g, cap, cur, hv, hg0, (hb.block g hlt).trans hg, hn, hm, hs, ht⟩
theorem Box.cells {w : World} {b : Nat} {p : Pr} (h : Box w b p) : ∀ i u, (cellsP [p])[i]? = some u → w.cell? ((⟨b, 0, none⟩ : Addr).add i) = some u := by
  intro i u hu
  rw [Addr.add_lit, Nat.zero_add]
  match i, hu with
  | 0, hu => rw [h.c0]; exact hu
  | 1, hu => rw [h.c1]; exact hu
  | i + 2, hu => simp [cellsP] at hu
theorem Own.snoc {w : World} {base : Nat} {v : Value} {l : List Pr} {p : Pr} (h : w.ownsRow base 58 2 v (l.length + 1) (cellsP l ++ cellsP [p])) : Own w base v (l ++ [p]) := by
  unfold Own
  rw [cellsP_append, List.length_append]
  exact h
theorem take_filter_yes {l : List Pr} {f : Pr → Bool} {j : Nat} (hj : j < l.length) (h : f (l.getD j ([], [])) = true) : (l.take (j + 1)).filter f = (l.take j).filter f ++ [l.getD j ([], [])] := by
  rw [getD_at hj] at *
  rw [List.take_succ_eq_append_getElem hj, List.filter_append]
  simp [h]
theorem take_filter_no {l : List Pr} {f : Pr → Bool} {j : Nat} (hj : j < l.length) (h : f (l.getD j ([], [])) = false) : (l.take (j + 1)).filter f = (l.take j).filter f := by
  rw [getD_at hj] at *
  rw [List.take_succ_eq_append_getElem hj, List.filter_append]
  simp [h]

set_option maxHeartbeats 2000000 in
theorem only_any (xa : Option Addr) (n c : Nat) (l : List Pr) (g : Nat) (cb : Array Value) (f : Pr → Bool) (w : World) (hn : n ≤ 1000000) (hx : Ps w xa n l)
    (eg : ∀ args w, (callFunc g args).run Tryz.prog w = .ok (.enter g args) w)
    (hp : ∀ p W, Below w.heap.size w W → Calls Tryz.prog g (#[.agg #[tx p.1, tx p.2]] ++ cb) W fun e w' => e = .returned (.bool (f p)) ∧ Below W.heap.size W w') :
    Calls Tryz.prog 100 #[.slice xa n c, .func (.func g) #[] cb] w fun e w' => ∃ v, e = .returned v ∧ Own w' w.heap.size v (l.filter f) ∧ Below w.heap.size w w' := by
  obtain ⟨i0, hi, hz0, hz1, hz2⟩ := info_parts35
  obtain ⟨hla, hca⟩ := hx
  have HA : Hid (l.length = n) := hla
  clear hla
  have HP : Aside _ := hp
  clear hp
  go_enter Tryz.func100, Tryz.ntmps100
  go_wp2
  go_loopw [11, 5] (fun i v wr => ∃ j : Nat, j ≤ n ∧ i = .int .i64 j ∧ Own wr w.heap.size v ((l.take j).filter f) ∧ Below w.heap.size w wr) (fun i _ _ => n - (intOf i).toNat)
  case atStart => exact ⟨0, by omega, rfl, World.ownsRow_made w #[] 0 (Nat.le_refl _) (Nat.zero_le _) (by simp), bal (Below.refl _ _) _⟩
  case round =>
    obtain ⟨j, hj, rfl, ho, hb⟩ := hrel
    by_cases hlt : j < n
    · obtain ⟨b1, o1, rfl, h1⟩ := hca (by omega)
      obtain ⟨c10, c11⟩ := h1 j hlt
      have k0 := (hb.cell (p := ⟨b1, o1 + j * 2, none⟩) (World.block_lt_of_cell? _ _ c10)).trans c10
      have k1 := (hb.cell (p := ⟨b1, o1 + j * 2 + 1, none⟩) (World.block_lt_of_cell? _ _ c11)).trans c11
      have hlt' : j < l.length := by rw [HA.out]; exact hlt
      have HY : Hid _ := take_filter_yes (f := f) hlt'
      have HN : Hid _ := take_filter_no (f := f) hlt'
      have hle : ((l.take j).filter f).length ≤ j := Nat.le_trans (List.length_filter_le _ _) (List.length_take_le _ _)
      clear h1 hca c10 c11 hlt'
      generalize l.getD j ([], []) = p at *
      have hbx := Box.new wr p
      have hb1 := bal hb (.cells #[tx p.1, tx p.2] 58)
      have ho1 := ho.later (bal (Below.refl _ _) (.cells #[tx p.1, tx p.2] 58))
      cases hfp : f p with
      | false =>
        have HN' := HN.out hfp
        have HN2 : Hid _ := HN'
        clear HN HY HN'
        go_wp2_with (go_at_fn g; refine (HP.out p _ hb1).mono ?_; rw [hfp]; rintro e w1 ⟨rfl, hb2⟩)
        go_roundw
        case rel => exact ⟨j + 1, by omega, by go_num, by rw [HN2.out]; exact ho1.later hb2, Below.chain hb1 hb2⟩
        case measure => simp [intOf]; omega
      | true =>
        have HN' := HY.out hfp
        have HN2 : Hid _ := HN'
        clear HN HY HN'
        go_wp2_with (first | (go_at_fn g; refine (HP.out p _ hb1).mono ?_; rw [hfp]; rintro e w1 ⟨rfl, hb2⟩; obtain ⟨d0, d1, _, _⟩ := hbx.later hb2; have ho3 := (ho1.later hb2).later (bal (Below.refl _ _) (.cells #[tx p.1, tx p.2] 58)); have hbx3 := Box.new w1 p) | (at_builtin; go_must (refine wpList_append_own _ rfl _ _ 30 rfl w.heap.size 58 i0 (.agg #[tx [], tx []]) 2 32 Tryz.underlying30 hi hz0 hz1 hz2 zero35 (by decide) _ _ _ rfl ho3 ⟨w1.heap.size, 0, none⟩ 1 1 (cellsP [p]) rfl rfl ?hnews (cellsP_one _) ?h63 ?hby ?hbs ?_)))
        case hnews => exact fun i u hu => hbx3.cells i u hu
        case h63 => unfold maxLen; omega
        case hby => omega
        case hbs => exact (bal (Below.chain hb1 hb2) _).size
        intro v' w2 ho4 hg4 _
        go_wp2
        go_roundw
        case rel => exact ⟨j + 1, by omega, by go_num, by rw [HN2.out]; exact Own.snoc ho4, (bal (Below.chain hb1 hb2) _).grown hg4 (bal (Below.chain hb1 hb2) _).size (fun k hk => (World.ownsRow.lt ho3 k hk).1)⟩
        case measure => simp [intOf]; omega
    · have HR : Hid ((l.take j).filter f = l.filter f) := by show _ = _; rw [List.take_of_length_le (by rw [HA.out]; omega)]
      rw [HR.out] at ho
      go_wp2
      go_ret
      exact ⟨_, rfl, ho, hb⟩
end Go.Proofs.YtcbjhfnlhpallaaGreatDoor
/- slices.Clone, slices.SortFunc by names: each for every slice of pairs. -/
namespace Go.Proofs.YtcbjhfnlhpallaaGreatDoor
open Go.RowKit

set_option maxHeartbeats 1000000 in
theorem clone_any (xa : Option Addr) (n c : Nat) (l : List Pr) (w : World) (hn : n ≤ 1000000) (hx : Ps w xa n l) :
    Calls Tryz.prog 97 #[.slice xa n c] w fun e w' => ∃ v, e = .returned v ∧ Own w' w.heap.size v l ∧ Below w.heap.size w w' := by
  obtain ⟨i0, hi, hz0, hz1, hz2⟩ := info_parts35
  have q23 : ∀ (w : World) (a : Option Addr) (n c n' c' : Nat), (binOp .eql 30 (.slice a n c) (.slice none n' c')).run Tryz.prog w = .ok (.bool a.isNone) w := fun w a n c n' c' => Lib.run_eql_slice_nil w _ _ a n c n' c' Tryz.underlying30
  have hlen := hx.1
  cases xa with
  | none =>
    have h0 : n = 0 := by
      by_cases h : 0 < n
      · obtain ⟨_, _, e, _⟩ := hx.2 h; cases e
      · omega
    subst h0
    obtain rfl : l = [] := List.length_eq_zero_iff.1 hlen
    go_enter Tryz.func97, Tryz.ntmps97
    go_wp2
    go_ret
    exact ⟨_, rfl, ⟨rfl, Or.inl ⟨rfl, rfl⟩⟩, Below.refl _ _⟩
  | some ad =>
    have hc : ∀ j u, (cellsP l)[j]? = some u → w.cell? (ad.add j) = some u := by
      intro j u hu
      have hj : j < l.length * 2 := by
        by_cases h : j < l.length * 2
        · exact h
        · rw [List.getElem?_eq_none (by rw [cellsP_length]; omega)] at hu; cases hu
      obtain ⟨b, off, e, h4⟩ := hx.2 (by omega)
      cases e
      rw [Addr.add_lit]
      have hjd : j / 2 < l.length := by omega
      obtain ⟨g1, g2⟩ := cellsP_get hjd
      obtain ⟨k1, k2⟩ := h4 (j / 2) (by omega)
      rcases Nat.mod_two_eq_zero_or_one j with hm | hm
      · have e : j / 2 * 2 = j := by omega
        rw [e] at g1 k1
        rw [k1, ← hu, g1]
      · have e : j / 2 * 2 + 1 = j := by omega
        rw [Nat.add_assoc, e] at k2
        rw [e] at g2
        rw [k2, ← hu, g2]
    have HC : Aside _ := hc
    have HL : Hid _ := hlen
    clear hc hlen
    go_enter Tryz.func97, Tryz.ntmps97
    go_wp2_with (at_builtin; go_must (refine wpList_append_own _ rfl _ _ 30 rfl w.heap.size 58 i0 (.agg #[tx [], tx []]) 2 32 Tryz.underlying30 hi hz0 hz1 hz2 zero35 (by decide) _ _ _ rfl (World.ownsRow_made w #[] 0 (Nat.le_refl _) (Nat.zero_le _) (by simp)) ad n c (cellsP l) rfl ?q1 ?q2 (cellsP_one _) ?q3 ?q4 ?q5 ?_))
    case q1 => rw [cellsP_length, HL.out]
    case q2 => exact fun j u hu => ((bal (Below.refl _ w) _).cell (p := ad.add j) (World.block_lt_of_cell? _ _ (HC.out j u hu))).trans (HC.out j u hu)
    case q3 => unfold maxLen; omega
    case q4 => omega
    case q5 => simp
    intro v' w1 hown hgrow _
    go_wp2
    go_ret
    refine ⟨v', rfl, ?_, (bal (Below.refl _ _) _).grown hgrow (by simp) (by intro k hk; simp [Value.ownBlock] at hk; omega)⟩
    unfold Own
    rw [HL.out]
    simpa using hown

/-! ### Sorted by names -/
def encP (p : Pr) : List Value := [tx p.1, tx p.2]
theorem cellsP_flat (l : List Pr) (t : Nat) (h : t < l.length * 2) : (cellsP l)[t]? = some (Sort.flatK encP 2 l.toArray)[t]! := by
  rw [Sort.get_flatK _ _ _ _ (by simpa using h)]
  have hd : t / 2 < l.length := by omega
  obtain ⟨g1, g2⟩ := cellsP_get hd
  have e0 : l.toArray[t / 2]! = l.getD (t / 2) ([], []) := by
    rw [getElem!_pos l.toArray (t / 2) (by simpa using hd), getD_at hd]
    rfl
  rw [e0]
  rcases Nat.mod_two_eq_zero_or_one t with hm | hm
  · have e : t / 2 * 2 = t := by omega
    rw [e] at g1
    rw [g1, hm]
    rfl
  · have e : t / 2 * 2 + 1 = t := by omega
    rw [e] at g2
    rw [g2, hm]
    rfl
theorem Own.holds {w : World} {base g n cap : Nat} {l : List Pr} (h : Own w base (.slice (some ⟨g, 0, none⟩) n cap) l) : Sort.HoldsK encP 2 w g 0 l.toArray ∧ n = l.length ∧ base ≤ g ∧ g < w.heap.size := by
  have h' := h
  rcases h.2 with ⟨e, _⟩ | ⟨g', cap', cur, e, hb, hg, hn, _, hs, ht⟩
  · cases e
  · cases e
    have hlt : g < w.heap.size := by
      by_cases hlt : g < w.heap.size
      · exact hlt
      · rw [Array.getElem?_eq_none (by omega)] at hg; cases hg
    refine ⟨fun j hj => ?_, rfl, hb, hlt⟩
    rw [Sort.size_flatK] at hj
    have hj' : j < l.length * 2 := by simpa using hj
    refine ⟨?_, ?_⟩
    · rw [cell_of_row _ _ _ _ _ _ hg, Nat.zero_add]
      show _ = some (Sort.flatK encP 2 l.toArray)[j]!
      rw [← cellsP_flat l j hj', ← ht, List.getElem?_take_of_lt hj']
      exact (Array.getElem?_toList).symm
    · exact World.ownsRow.frozenAt h' (0 + j)
theorem Ps.of_holds {w : World} {g : Nat} {d : Array Pr} (h : Sort.HoldsK encP 2 w g 0 d) : Ps w (some ⟨g, 0, none⟩) d.size d.toList := by
  refine ⟨by simp, fun _ => ⟨g, 0, rfl, fun j hj => ?_⟩⟩
  have e0 : d[j]! = d.toList.getD j ([], []) := by
    rw [getElem!_pos d j hj, getD_at (by simpa using hj)]
    rfl
  have h0 := (Sort.HoldsK.cell h (i := j) (c := 0) hj (by omega)).1
  have h1 := (Sort.HoldsK.cell h (i := j) (c := 1) hj (by omega)).1
  rw [e0] at h0 h1
  exact ⟨h0, h1⟩
def nameF (p q : Pr) : Int := Lib.compareBytes p.1 q.1
theorem lt_name (p q : Pr) : ltOf nameF p q = decide (p.1 < q.1) := by
  unfold ltOf nameF
  exact cmpB_lt p.1 q.1
theorem swo_name : Sort.SWO (ltOf nameF) := by
  refine ⟨fun x => ?_, fun x y z h1 h2 => ?_, fun x y z h1 h2 => ?_⟩
  · rw [lt_name]; exact decide_eq_false (str_irrefl _)
  · rw [lt_name, decide_eq_true_iff] at *
    exact str_trans h1 h2
  · rw [lt_name, decide_eq_false_iff_not] at *
    intro h
    by_cases k : y.1 < z.1
    · exact h2 k
    · by_cases k2 : z.1 < y.1
      · exact h1 (str_trans h k2)
      · rw [← str_eq k k2] at h; exact h1 h
theorem lays_name (blk off size : Nat) (w : World) : CmpLays Tryz.prog 99 #[] encP 2 nameF blk off size w := fun _ _ _ _ x y => byName_grow x y _
theorem enters41 : ∀ args w, (callFunc 99 args).run Tryz.prog w = .ok (.enter 99 args) w := enters_of Tryz.func99 (by kernel_rfl) rfl
theorem below_sort {B g m : Nat} {w0 w : World} {d : Array Pr} {os : Array Obj} (h : Below B w0 w) (hg : B ≤ g) (hB : B ≤ w.heap.size) : Below B w0 (sortWorldK encP 2 w g 0 m d os) := by
  have h1 : Below B w0 (Sort.putRowK encP 2 (Sort.ahead w m) g 0 d) := Lib.below_putRow h hg
  have hs : (Sort.putRowK encP 2 (Sort.ahead w m) g 0 d).heap.size = w.heap.size := by
    show (Sort.putRow id (Sort.ahead w m) g 0 _).heap.size = _
    rw [Sort.size_putRow]
    rfl
  exact h1.trans (Lib.below_grow B _ (by rw [hs]; exact hB) 0 os)
/-- Behind the sort: the same place holds the same pairs by their names. -/
theorem sort_any (v : Value) (base : Nat) (l : List Pr) (w0 w : World) (ho : Own w base v l) (hn : l.length ≤ 1000000) (hb : Below base w0 w) (hB : base ≤ w0.heap.size) :
    Calls Tryz.prog 98 #[v, .func (.func 99) #[] #[]] w fun e w' => e = .returned (.tuple #[]) ∧ ∃ ao cap m, v = .slice ao l.length cap ∧ Ps w' ao l.length m ∧ m.Perm l ∧ sortedN m ∧ Below base w0 w' := by
  rcases ho.2 with ⟨rfl, h0⟩ | ⟨g, cap, cur, rfl, _⟩
  · obtain rfl : l = [] := List.length_eq_zero_iff.1 h0
    have hcon := AnyF.slices_SortFunc_none Tryz.sortP none 0 (.func (.func 99) #[] #[]) w
    change Calls Tryz.prog 98 _ _ _ at hcon
    refine hcon.mono ?_
    rintro e w' ⟨rfl, rfl⟩
    exact ⟨rfl, none, 0, [], rfl, Ps.nil _ _, List.Perm.refl _, List.Pairwise.nil, hb⟩
  · obtain ⟨hH, _, hbg, hlt⟩ := Own.holds ho
    have hcon := AnyQ.slices_SortFunc Tryz.sortP 2 Tryz.isAgg58 Tryz.sizeOf58 encP (fun _ => rfl) (fun x u hu => by simp [encP] at hu; rcases hu with rfl | rfl <;> rfl) nameF swo_name 99 #[] g 0 cap l.toArray w enters41 (lays_name g 0 _ w) hH hlt (by simp; omega)
    change Calls Tryz.prog 98 _ _ _ at hcon
    have es : l.toArray.size = l.length := by simp
    rw [es] at hcon
    refine hcon.mono ?_
    rintro e w' ⟨rfl, d', n, os, hp, hs, rfl⟩
    have hsz : d'.size = l.length := by rw [hp.1]; simp
    have hH' := holdsK_sortWorldK_c encP 2 w g 0 l.toArray d' n os hH hlt (by rw [hsz]; simp)
    have hps := Ps.of_holds hH'
    rw [hsz] at hps
    refine ⟨rfl, _, _, d'.toList, rfl, hps, ?_, ?_, below_sort hb hbg (Nat.le_trans hB hb.size)⟩
    · have h2 := hp.2.2
      have e1 : (d'.extract 0 l.length) = d' := by rw [← hsz]; exact Array.extract_size
      have e2 : (l.toArray.extract 0 l.length) = l.toArray := by rw [← es]; exact Array.extract_size
      rw [e1, e2] at h2
      exact h2
    · unfold sortedN
      rw [List.pairwise_iff_getElem]
      intro i j hi hj hij
      simp at hi hj
      have := hs i j (Nat.zero_le _) hij (by omega)
      rw [lt_name, decide_eq_false_iff_not, getElem!_pos d' i (by omega), getElem!_pos d' j (by omega)] at this
      exact this
end Go.Proofs.YtcbjhfnlhpallaaGreatDoor
