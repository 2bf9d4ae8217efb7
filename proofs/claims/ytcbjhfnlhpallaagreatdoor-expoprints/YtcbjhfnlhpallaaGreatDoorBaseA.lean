/- Label sets: the texts that the others lean on, in one. -/
import Derived.Lib.Bytealg
import Derived.Lib.Index
import Derived.Test.YtcbjhfnlhpallaaGreatDoorRows
import Derived.WalkKit
import Derived.WalkSpells
import Derived.WalkLawsBesides
import Derived.Deep.RegionHeld3
import Derived.BigQuiet
import Derived.Laws.StructEq
import Derived.Shelf.Small.Strs
import Derived.Shelf.Strings.Search3
import Derived.Shelf.Strings.Cut
import Derived.Shelf.Strings.Prefix
import Derived.Shelf.Slices.Turned
import Derived.Test.YtcbjhfnlhpallaaGreatDoorProg
import Derived.Shelf.SlSortCmp.WholeK
import Derived.Shelf.SlicesE.Clone
import Derived.Shelf.SlGeneric
import Derived.Ground.SlsfProg
import Derived.Ground.SlgnProg
import Derived.Lib.OwnBridge
import Derived.Lib.AppendIntMem
import Derived.Laws.OwnMore
import Derived.Shelf.SlSortCmp.NoneTotal
import Derived.Shelf.Strings.OnBuilder
import Derived.Shelf.Strings.Replace
import Derived.Lib.Replace
import Derived.Lib.SplitLaws
import Derived.Lib.IndexLaws
import Derived.Lib.Join
import Derived.Lib.Strings
/- Label sets in plain words: names, values, sets, what is made of pairs, which is less. -/
namespace Go.Proofs.YtcbjhfnlhpallaaGreatDoor

abbrev Str := List UInt8
abbrev Pr := Str × Str

/-! ### Texts, byte by byte -/
theorem str_irrefl (a : Str) : ¬ a < a := List.lt_irrefl a
theorem str_trans {a b c : Str} (h : a < b) (k : b < c) : a < c := List.lt_trans h k
theorem str_asymm {a b : Str} (h : a < b) : ¬ b < a := List.lt_asymm h
theorem str_eq {a b : Str} (h : ¬ a < b) (k : ¬ b < a) : a = b := List.le_antisymm (List.not_lt.1 k) (List.not_lt.1 h)
theorem less_eq (a b : Str) : Go.Op.bytesLess a b = decide (a < b) := by
  induction a generalizing b with
  | nil => cases b <;> simp [Go.Op.bytesLess]
  | cons x a ih =>
    cases b with
    | nil => simp [Go.Op.bytesLess]
    | cons y b =>
      rw [Go.Op.bytesLess, ih]
      by_cases h : x < y
      · simp [h, List.cons_lt_cons_iff]
      · by_cases e : x = y
        · subst e; simp
        · simp [h, e, List.cons_lt_cons_iff]
theorem cmpB_eq (a b : Str) : Lib.compareBytes a b = if a < b then -1 else if b < a then 1 else 0 := by
  induction a generalizing b with
  | nil => cases b <;> simp [Lib.compareBytes]
  | cons x a ih =>
    cases b with
    | nil => simp [Lib.compareBytes]
    | cons y b =>
      rw [Lib.compareBytes, ih]
      by_cases h : x < y
      · simp [h, List.cons_lt_cons_iff]
      · by_cases h2 : y < x
        · have hne : x ≠ y := fun e => by subst e; exact h h2
          simp [h, h2, List.cons_lt_cons_iff, hne]
        · have e : x = y := UInt8.le_antisymm (UInt8.not_lt.1 h2) (UInt8.not_lt.1 h)
          subst e
          simp
theorem cmpB_lt (a b : Str) : decide (Lib.compareBytes a b < 0) = decide (a < b) := by
  rw [cmpB_eq]
  by_cases h : a < b
  · simp [h]
  · by_cases k : b < a <;> simp [h, k]
theorem cmpB_zero (a b : Str) : Lib.compareBytes a b = 0 ↔ a = b := by
  rw [cmpB_eq]
  by_cases h : a < b
  · simp [h]; intro e; subst e; exact str_irrefl _ h
  · by_cases k : b < a
    · simp [h, k]; intro e; subst e; exact h k
    · simp [h, k]; exact str_eq h k
theorem cmpB_neg (a b : Str) : Lib.compareBytes a b = - Lib.compareBytes b a := by
  rw [cmpB_eq, cmpB_eq]
  by_cases h : a < b
  · simp [h, str_asymm h]
  · by_cases k : b < a <;> simp [h, k]
theorem cmpB_cases (a b : Str) : Lib.compareBytes a b = -1 ∨ Lib.compareBytes a b = 0 ∨ Lib.compareBytes a b = 1 := by
  rw [cmpB_eq]
  by_cases h : a < b
  · simp [h]
  · by_cases k : b < a <;> simp [h, k]
theorem cmpB_trans {a b c : Str} (h : Lib.compareBytes a b = -1) (k : Lib.compareBytes b c = -1) : Lib.compareBytes a c = -1 := by
  have f : ∀ x y : Str, Lib.compareBytes x y = -1 ↔ x < y := fun x y => by
    rw [cmpB_eq]
    by_cases h : x < y
    · simp [h]
    · by_cases k : y < x <;> simp [h, k]
  rw [f] at *
  exact str_trans h k

/-! ### Names, values, sets -/
def digB (c : UInt8) : Bool := decide (48 ≤ c.toNat) && decide (c.toNat ≤ 57)
def letB (c : UInt8) : Bool := decide (97 ≤ c.toNat) && decide (c.toNat ≤ 122) || decide (65 ≤ c.toNat) && decide (c.toNat ≤ 90)
def nameCh (c : UInt8) : Bool := digB c || letB c || decide (c.toNat = 95)
def fName (s : Str) : Bool := decide (1 ≤ s.length) && decide (s.length ≤ 20) && !digB (s.headD 0) && s.all nameCh
def fVal (s : Str) : Bool := decide (1 ≤ s.length) && decide (s.length ≤ 30) && !s.contains 10
def okAt (l : List Pr) (i : Nat) : Bool := fName (l.getD i ([], [])).1 && fVal (l.getD i ([], [])).2 && (decide (i = 0) || decide ((l.getD (i - 1) ([], [])).1 < (l.getD i ([], [])).1))
def fIs (l : List Pr) : Bool := decide (l.length ≤ 8) && (List.range l.length).all (okAt l)
def rises (l : List Pr) : Prop := l.Pairwise (fun a b => a.1 < b.1)

theorem rises_of {l : List Pr} (h : ∀ i, 0 < i → i < l.length → (l.getD (i - 1) ([], [])).1 < (l.getD i ([], [])).1) : rises l := by
  unfold rises
  induction l with
  | nil => exact List.Pairwise.nil
  | cons a l ih =>
    have ih' := ih (fun i h0 h1 => by
      have := h (i + 1) (by omega) (by simp; omega)
      obtain ⟨j, rfl⟩ : ∃ j, i = j + 1 := ⟨i - 1, by omega⟩
      simpa using this)
    cases l with
    | nil => simp
    | cons b r =>
      have h1 := h 1 (by omega) (by simp)
      simp at h1
      rw [List.pairwise_cons]
      refine ⟨fun x hx => ?_, ih'⟩
      rcases List.mem_cons.1 hx with rfl | hx
      · exact h1
      · exact str_trans h1 ((List.pairwise_cons.1 ih').1 x hx)
theorem rises_at {l : List Pr} (h : rises l) {i j : Nat} (hij : i < j) (hj : j < l.length) : (l.getD i ([], [])).1 < (l.getD j ([], [])).1 := by
  unfold rises at h
  rw [List.pairwise_iff_getElem] at h
  have := h i j (by omega) hj hij
  simpa [List.getD, List.getElem?_eq_getElem hj, List.getElem?_eq_getElem (show i < l.length by omega)] using this
theorem is_iff (l : List Pr) : fIs l = true ↔ l.length ≤ 8 ∧ (∀ p ∈ l, fName p.1 = true ∧ fVal p.2 = true) ∧ rises l := by
  unfold fIs
  rw [Bool.and_eq_true, decide_eq_true_iff, List.all_eq_true]
  constructor
  · rintro ⟨h1, h2⟩
    have h3 : ∀ i, i < l.length → okAt l i = true := fun i hi => h2 i (List.mem_range.2 hi)
    refine ⟨h1, ?_, rises_of fun i h0 hi => ?_⟩
    · intro p hp
      obtain ⟨i, hi, rfl⟩ := List.mem_iff_getElem.1 hp
      have := h3 i hi
      unfold okAt at this
      simp [List.getD, List.getElem?_eq_getElem hi] at this
      exact this.1
    · have := h3 i hi
      unfold okAt at this
      simp only [Bool.and_eq_true, Bool.or_eq_true, decide_eq_true_iff] at this
      rcases this.2 with h | h
      · omega
      · exact h
  · rintro ⟨h1, h2, h3⟩
    refine ⟨h1, fun i hi => ?_⟩
    have hi' := List.mem_range.1 hi
    have hm := h2 l[i] (List.getElem_mem hi')
    unfold okAt
    simp only [Bool.and_eq_true, Bool.or_eq_true, decide_eq_true_iff]
    refine ⟨by simpa [List.getD, List.getElem?_eq_getElem hi'] using hm, ?_⟩
    by_cases h0 : i = 0
    · exact Or.inl h0
    · exact Or.inr (rises_at h3 (by omega) hi')
theorem rises_nodup {l : List Pr} (h : rises l) : (l.map (·.1)).Nodup := by
  unfold rises at h
  rw [List.Nodup, List.pairwise_map]
  exact h.imp fun {a b} hab e => by rw [e] at hab; exact str_irrefl _ hab
theorem rises_filter {l : List Pr} (h : rises l) (p : Pr → Bool) : rises (l.filter p) := List.Pairwise.filter p h
theorem is_filter {l : List Pr} (h : fIs l = true) (p : Pr → Bool) : fIs (l.filter p) = true := by
  rw [is_iff] at *
  exact ⟨Nat.le_trans (List.length_filter_le _ _) h.1, fun x hx => h.2.1 x (List.mem_filter.1 hx).1, rises_filter h.2.2 p⟩

/-! ### Sorted by name: one row, where no name comes twice -/
def ins (p : Pr) : List Pr → List Pr
  | [] => [p]
  | q :: r => if q.1 < p.1 then q :: ins p r else p :: q :: r
def srt : List Pr → List Pr
  | [] => []
  | p :: r => ins p (srt r)
theorem ins_perm (p : Pr) (l : List Pr) : (ins p l).Perm (p :: l) := by
  induction l with
  | nil => exact List.Perm.refl _
  | cons q r ih =>
    rw [ins]
    split
    · exact (List.Perm.cons q ih).trans (List.Perm.swap p q r)
    · exact List.Perm.refl _
theorem srt_perm (l : List Pr) : (srt l).Perm l := by
  induction l with
  | nil => exact List.Perm.refl _
  | cons p r ih => exact (ins_perm p (srt r)).trans (List.Perm.cons p ih)
def sortedN (l : List Pr) : Prop := l.Pairwise (fun a b => ¬ b.1 < a.1)
theorem ins_sorted (p : Pr) {l : List Pr} (h : sortedN l) : sortedN (ins p l) := by
  unfold sortedN at *
  induction l with
  | nil => simp [ins]
  | cons q r ih =>
    rw [ins]
    split
    · rename_i hq
      rw [List.pairwise_cons] at h ⊢
      refine ⟨fun x hx => ?_, ih h.2⟩
      rcases List.mem_cons.1 ((ins_perm p r).mem_iff.1 hx) with rfl | hx
      · exact str_asymm hq
      · exact h.1 x hx
    · rename_i hq
      rw [List.pairwise_cons]
      refine ⟨fun x hx => ?_, h⟩
      rw [List.pairwise_cons] at h
      rcases List.mem_cons.1 hx with rfl | hx
      · exact hq
      · intro hlt
        have h1 := h.1 x hx
        -- q ≤ x < p, yet p ≤ q
        by_cases e : q.1 = x.1
        · rw [e] at hq; exact hq hlt
        · have : q.1 < x.1 := by
            by_cases k : q.1 < x.1
            · exact k
            · exact absurd (str_eq k h1) e
          exact hq (str_trans this hlt)
theorem srt_sorted (l : List Pr) : sortedN (srt l) := by
  induction l with
  | nil => exact List.Pairwise.nil
  | cons p r ih => exact ins_sorted p ih
theorem sorted_rises {l : List Pr} (h : sortedN l) (hn : (l.map (·.1)).Nodup) : rises l := by
  unfold rises
  unfold sortedN at h
  rw [List.Nodup, List.pairwise_map] at hn
  exact (h.and hn).imp fun {a b} ⟨h1, h2⟩ => by
    by_cases k : a.1 < b.1
    · exact k
    · exact absurd (str_eq k h1) h2
theorem rises_unique {l m : List Pr} (hp : l.Perm m) (hl : rises l) (hm : rises m) : l = m := by
  unfold rises at *
  induction l generalizing m with
  | nil => exact (List.nil_perm.1 hp).symm
  | cons a l ih =>
    cases m with
    | nil => exact absurd (List.perm_nil.1 hp) (by simp)
    | cons b m =>
      rw [List.pairwise_cons] at hl hm
      have e : a = b := by
        have ha : a ∈ b :: m := hp.mem_iff.1 (List.mem_cons_self)
        have hb : b ∈ a :: l := hp.mem_iff.2 (List.mem_cons_self)
        rcases List.mem_cons.1 ha with rfl | ha
        · rfl
        · rcases List.mem_cons.1 hb with rfl | hb
          · rfl
          · exact absurd (hl.1 b hb) (str_asymm (hm.1 a ha))
      subst e
      rw [ih (List.Perm.cons_inv hp) hl.2 hm.2]
theorem srt_of {l m : List Pr} (hp : m.Perm l) (hm : rises m) : srt l = m := by
  have hn : ((srt l).map (·.1)).Nodup := (((srt_perm l).trans hp.symm).map (·.1)).nodup_iff.2 (rises_nodup hm)
  exact rises_unique ((srt_perm l).trans hp.symm) (sorted_rises (srt_sorted l) hn) hm
theorem srt_rises {l : List Pr} (h : rises l) : srt l = l := srt_of (List.Perm.refl _) h

/-! ### Make, Get, With, Keep, Without, Cmp -/
def twice (l : List Pr) : Bool := !decide (l.map (·.1)).Nodup
def full (l : List Pr) : List Pr := l.filter fun p => !p.2.isEmpty
def makeE (l : List Pr) : Int := if twice l = true then 31 else if fIs (srt (full l)) = true then 0 else 30
def makeL (l : List Pr) : List Pr := if makeE l = 0 then srt (full l) else []
def fGet (l : List Pr) (n : Str) : Str := ((l.find? fun p => decide (p.1 = n)).map (·.2)).getD []
def fKeep (l : List Pr) (names : List Str) : List Pr := l.filter fun p => names.contains p.1
def nm : Str := [95, 95, 110, 97, 109, 101, 95, 95]
def fWithout (l : List Pr) (names : List Str) : List Pr := l.filter fun p => !decide (p.1 = nm) && !names.contains p.1
def pCmp (a b : Pr) : Int := if Lib.compareBytes a.1 b.1 = 0 then Lib.compareBytes a.2 b.2 else Lib.compareBytes a.1 b.1
def fCmp : List Pr → List Pr → Int
  | [], [] => 0
  | [], _ :: _ => -1
  | _ :: _, [] => 1
  | a :: u, b :: v => if pCmp a b = 0 then fCmp u v else pCmp a b
theorem pCmp_zero (a b : Pr) : pCmp a b = 0 ↔ a = b := by
  unfold pCmp
  by_cases h : Lib.compareBytes a.1 b.1 = 0
  · rw [if_pos h, cmpB_zero]
    rw [cmpB_zero] at h
    exact ⟨fun e => Prod.ext h e, fun e => by rw [e]⟩
  · rw [if_neg h]
    refine ⟨fun e => absurd e h, fun e => ?_⟩
    rw [e, (cmpB_zero _ _).2 rfl] at h
    exact absurd rfl h
theorem pCmp_neg (a b : Pr) : pCmp a b = - pCmp b a := by
  unfold pCmp
  have e1 := cmpB_neg a.1 b.1
  have e2 := cmpB_neg a.2 b.2
  by_cases h : Lib.compareBytes a.1 b.1 = 0
  · rw [if_pos h, if_pos (by omega)]; exact e2
  · rw [if_neg h, if_neg (by omega)]; exact e1
theorem pCmp_cases (a b : Pr) : pCmp a b = -1 ∨ pCmp a b = 0 ∨ pCmp a b = 1 := by
  unfold pCmp
  split
  · exact cmpB_cases _ _
  · exact cmpB_cases _ _
theorem pCmp_trans {a b c : Pr} (h : pCmp a b = -1) (k : pCmp b c = -1) : pCmp a c = -1 := by
  unfold pCmp at *
  by_cases h1 : Lib.compareBytes a.1 b.1 = 0
  · rw [if_pos h1] at h
    rw [(cmpB_zero _ _).1 h1]
    by_cases h2 : Lib.compareBytes b.1 c.1 = 0
    · rw [if_pos h2] at k ⊢; exact cmpB_trans h k
    · rw [if_neg h2] at k ⊢; exact k
  · rw [if_neg h1] at h
    by_cases h2 : Lib.compareBytes b.1 c.1 = 0
    · rw [← (cmpB_zero _ _).1 h2, if_neg h1]; exact h
    · rw [if_neg h2] at k
      have := cmpB_trans h k
      rw [if_neg (by omega)]; exact this
theorem fCmp_zero (a b : List Pr) : fCmp a b = 0 ↔ a = b := by
  induction a generalizing b with
  | nil => cases b <;> simp [fCmp]
  | cons x a ih =>
    cases b with
    | nil => simp [fCmp]
    | cons y b =>
      rw [fCmp]
      by_cases h : pCmp x y = 0
      · rw [if_pos h, ih, (pCmp_zero _ _).1 h]; simp
      · rw [if_neg h]
        refine ⟨fun e => absurd e h, fun e => ?_⟩
        cases e
        exact absurd ((pCmp_zero _ _).2 rfl) h
theorem fCmp_neg (a b : List Pr) : fCmp a b = - fCmp b a := by
  induction a generalizing b with
  | nil => cases b <;> simp [fCmp]
  | cons x a ih =>
    cases b with
    | nil => simp [fCmp]
    | cons y b =>
      rw [fCmp, fCmp]
      have e := pCmp_neg x y
      by_cases h : pCmp x y = 0
      · rw [if_pos h, if_pos (by omega)]; exact ih b
      · rw [if_neg h, if_neg (by omega)]; exact e
theorem fCmp_cases (a b : List Pr) : fCmp a b = -1 ∨ fCmp a b = 0 ∨ fCmp a b = 1 := by
  induction a generalizing b with
  | nil => cases b <;> simp [fCmp]
  | cons x a ih =>
    cases b with
    | nil => simp [fCmp]
    | cons y b =>
      rw [fCmp]
      split
      · exact ih b
      · exact pCmp_cases x y
theorem fCmp_trans {a b c : List Pr} (h : fCmp a b = -1) (k : fCmp b c = -1) : fCmp a c = -1 := by
  induction a generalizing b c with
  | nil => cases b <;> cases c <;> simp_all [fCmp]
  | cons x a ih =>
    cases b with
    | nil => simp [fCmp] at h
    | cons y b =>
      cases c with
      | nil => simp [fCmp] at k
      | cons z c =>
        rw [fCmp] at *
        by_cases h1 : pCmp x y = 0
        · rw [if_pos h1] at h
          rw [(pCmp_zero _ _).1 h1]
          by_cases h2 : pCmp y z = 0
          · rw [if_pos h2] at k ⊢; exact ih h k
          · rw [if_neg h2] at k ⊢; exact k
        · rw [if_neg h1] at h
          by_cases h2 : pCmp y z = 0
          · rw [← (pCmp_zero _ _).1 h2, if_neg h1]; exact h
          · rw [if_neg h2] at k
            have := pCmp_trans h k
            rw [if_neg (by omega)]; exact this
theorem fCmp_le_trans {a b c : List Pr} (h : fCmp a b ≤ 0) (k : fCmp b c ≤ 0) : fCmp a c ≤ 0 := by
  rcases fCmp_cases a b with h1 | h1 | h1
  · rcases fCmp_cases b c with k1 | k1 | k1
    · rw [fCmp_trans h1 k1]; omega
    · rw [← (fCmp_zero _ _).1 k1]; omega
    · omega
  · rw [(fCmp_zero _ _).1 h1]; exact k
  · omega
theorem fCmp_take (a : List Pr) (k : Nat) (h : k ≤ a.length) : fCmp (a.take k) a = if k < a.length then -1 else 0 := by
  induction a generalizing k with
  | nil => simp [fCmp]
  | cons x a ih =>
    cases k with
    | zero => simp [fCmp]
    | succ k =>
      rw [List.take_succ_cons, fCmp, if_pos ((pCmp_zero _ _).2 rfl), ih k (by simpa using h)]
      simp
end Go.Proofs.YtcbjhfnlhpallaaGreatDoor
/- The leaves of package label: isDigit, isLetter, Name: each for every argument. -/
namespace Go.Proofs.YtcbjhfnlhpallaaGreatDoor
open Go.RowKit

theorem ret_int {k : IntKind} {a b : Int} (h : a = b) : Ending.returned (.int k a) = .returned (.int k b) := by rw [h]
theorem ret_bool {a b : Bool} (h : a = b) : Ending.returned (.bool a) = .returned (.bool b) := by rw [h]
theorem Below.chain {a b c : World} (h : Below a.heap.size a b) (k : Below b.heap.size b c) : Below a.heap.size a c := h.trans (k.mono h.size)
theorem bal {a w : World} (h : Below a.heap.size a w) (o : Obj) : Below a.heap.size a (w.alloc o) := h.alloc h.size o
theorem ba_size (l : Str) : (⟨l.toArray⟩ : ByteArray).size = l.length := by show l.toArray.size = _; simp
theorem ba_lt {l : Str} {k : Nat} (h : k < l.length) : k < (⟨l.toArray⟩ : ByteArray).size := by rw [ba_size]; exact h
theorem ba_toList (l : Str) : (⟨l.toArray⟩ : ByteArray).toList = l := by rw [Lib.toList_data]
theorem take_snocB (l : Str) (k : Nat) (h : k < l.length) : l.take (k + 1) = l.take k ++ [l[k]] := List.take_succ_eq_append_getElem h
/-- Byte k of a text. -/
theorem ba_get {l : Str} {k : Nat} (h : k < l.length) : (⟨l.toArray⟩ : ByteArray)[k]'(ba_lt h) = l[k] := rfl

theorem isDigit_any (c : UInt8) (w : World) : Calls Tryz.prog 107 #[.int .u8 c.toNat] w fun e w' => e = .returned (.bool (digB c)) ∧ w = w' := by
  unfold digB
  go_enter Tryz.func107, Tryz.ntmps107
  go_wp2
  all_goals
    go_ret
    exact ⟨ret_bool (by rw [Bool.eq_iff_iff]; simp; omega), rfl⟩
theorem isLetter_any (c : UInt8) (w : World) : Calls Tryz.prog 108 #[.int .u8 c.toNat] w fun e w' => e = .returned (.bool (letB c)) ∧ w = w' := by
  unfold letB
  go_enter Tryz.func108, Tryz.ntmps108
  go_wp2
  all_goals
    go_ret
    exact ⟨ret_bool (by rw [Bool.eq_iff_iff]; simp; omega), rfl⟩
end Go.Proofs.YtcbjhfnlhpallaaGreatDoor
/- Name: for every text. -/
namespace Go.Proofs.YtcbjhfnlhpallaaGreatDoor
open Go.RowKit

theorem all_snoc (l : Str) (c : UInt8) (f : UInt8 → Bool) : (l ++ [c]).all f = (l.all f && f c) := by simp
theorem not_all {l : Str} (k : Nat) (hk : k < l.length) (h : nameCh l[k] = false) : l.all nameCh = false := by
  cases hd : l.all nameCh with
  | false => rfl
  | true => rw [List.all_eq_true.1 hd _ (List.getElem_mem hk)] at h; cases h

set_option maxHeartbeats 1000000 in
theorem name_any (l : Str) (w : World) (hl : l.length ≤ 9223372036854775807) :
    Calls Tryz.prog 66 #[.string ⟨l.toArray⟩] w fun e w' => e = .returned (.bool (fName l)) ∧ w = w' := by
  by_cases h1 : 1 ≤ l.length
  · have h1' : ¬ (l.length : Int) < 1 := by omega
    by_cases h2 : l.length ≤ 20
    · have h2' : ¬ (20 : Int) < l.length := by omega
      have hb0 := ba_lt h1
      have hd0 := fun w => isDigit_any ((⟨l.toArray⟩ : ByteArray)[0]'hb0) w
      have hdh : l.headD 0 = (⟨l.toArray⟩ : ByteArray)[0]'hb0 := by
        cases l with
        | nil => cases h1
        | cons c r => rfl
      have e : fName l = (!digB ((⟨l.toArray⟩ : ByteArray)[0]'hb0) && l.all nameCh) := by simp only [fName, h1, h2, hdh, decide_true, Bool.true_and]
      rw [e]
      have HE : Hid (fName l = (!digB ((⟨l.toArray⟩ : ByteArray)[0]'hb0) && l.all nameCh)) := e
      clear e hdh
      cases hd : digB ((⟨l.toArray⟩ : ByteArray)[0]'hb0) with
      | true =>
        rw [hd] at hd0
        go_enter Tryz.func66, Tryz.ntmps66
        go_wp2_with (go_at_call 107; refine (hd0 _).mono ?_; rintro e w' ⟨rfl, rfl⟩)
        go_ret
        exact ⟨by simp, rfl⟩
      | false =>
        rw [hd] at hd0
        clear hd HE
        go_enter Tryz.func66, Tryz.ntmps66
        go_wp2_with (go_at_call 107; refine (hd0 _).mono ?_; rintro e w' ⟨rfl, rfl⟩)
        go_loop [19] (fun i => ∃ k : Nat, k ≤ l.length ∧ i = .int .i64 k ∧ Hid ((l.take k).all nameCh = true)) (fun i => l.length - (intOf i).toNat)
        case atStart => exact ⟨0, by omega, rfl, rfl⟩
        case round =>
          obtain ⟨k, hk, rfl, ha⟩ := hrel
          by_cases hlt : k < l.length
          · have hbk := ba_lt hlt
            have hdk := fun w => isDigit_any ((⟨l.toArray⟩ : ByteArray)[k]'hbk) w
            have hlk := fun w => isLetter_any ((⟨l.toArray⟩ : ByteArray)[k]'hbk) w
            have HC : Hid (nameCh l[k] = (digB ((⟨l.toArray⟩ : ByteArray)[k]'hbk) || letB ((⟨l.toArray⟩ : ByteArray)[k]'hbk) || decide (((⟨l.toArray⟩ : ByteArray)[k]'hbk).toNat = 95))) := rfl
            have HS : Hid ((l.take (k + 1)).all nameCh = nameCh l[k]) := by
              show _ = _
              rw [take_snocB l k hlt, all_snoc, ha.out, Bool.true_and]
            have HN : Hid (nameCh l[k] = false → l.all nameCh = false) := not_all k hlt
            generalize nameCh l[k] = N at *
            cases hdc : digB ((⟨l.toArray⟩ : ByteArray)[k]'hbk) with
            | true =>
              rw [hdc] at hdk
              have HT : Hid ((l.take (k + 1)).all nameCh = true) := by show _ = _; rw [HS.out, HC.out, hdc]; rfl
              clear hdc
              go_wp2_with (go_at_call 107; refine (hdk _).mono ?_; rintro e w' ⟨rfl, rfl⟩)
              go_round
              case rel => exact ⟨k + 1, by omega, by go_num, HT⟩
              case measure => simp [intOf]; omega
            | false =>
              rw [hdc] at hdk
              cases hlc : letB ((⟨l.toArray⟩ : ByteArray)[k]'hbk) with
              | true =>
                rw [hlc] at hlk
                have HT : Hid ((l.take (k + 1)).all nameCh = true) := by show _ = _; rw [HS.out, HC.out, hdc, hlc]; rfl
                clear hdc hlc
                go_wp2_with (first | (go_at_call 107; refine (hdk _).mono ?_; rintro e w' ⟨rfl, rfl⟩) | (go_at_call 108; refine (hlk _).mono ?_; rintro e w' ⟨rfl, rfl⟩))
                go_round
                case rel => exact ⟨k + 1, by omega, by go_num, HT⟩
                case measure => simp [intOf]; omega
              | false =>
                rw [hlc] at hlk
                by_cases hu : ((⟨l.toArray⟩ : ByteArray)[k]'hbk).toNat = 95
                · have HT : Hid ((l.take (k + 1)).all nameCh = true) := by show _ = _; rw [HS.out, HC.out, hdc, hlc]; simp [hu]
                  clear hdc hlc
                  have hu' : ((((⟨l.toArray⟩ : ByteArray)[k]'hbk).toNat : Int) != 95) = false := by rw [bne_eq_false_iff_eq]; omega
                  clear hu
                  go_wp2_with (first | (go_at_call 107; refine (hdk _).mono ?_; rintro e w' ⟨rfl, rfl⟩) | (go_at_call 108; refine (hlk _).mono ?_; rintro e w' ⟨rfl, rfl⟩))
                  go_round
                  case rel => exact ⟨k + 1, by omega, by go_num, HT⟩
                  case measure => simp [intOf]; omega
                · have HF : Hid (l.all nameCh = false) := HN.out (by rw [HC.out, hdc, hlc]; simp [hu])
                  clear hdc hlc
                  have hu' : ((((⟨l.toArray⟩ : ByteArray)[k]'hbk).toNat : Int) != 95) = true := by rw [bne_iff_ne]; omega
                  clear hu
                  go_wp2_with (first | (go_at_call 107; refine (hdk _).mono ?_; rintro e w' ⟨rfl, rfl⟩) | (go_at_call 108; refine (hlk _).mono ?_; rintro e w' ⟨rfl, rfl⟩))
                  go_ret
                  exact ⟨by rw [HF.out]; rfl, rfl⟩
          · have HF : Hid (l.all nameCh = true) := by
              have := ha.out
              rw [List.take_of_length_le (by omega)] at this
              exact this
            go_wp2_with fail
            go_ret
            exact ⟨by rw [HF.out]; rfl, rfl⟩
    · have h2' : (20 : Int) < l.length := by omega
      have e : fName l = false := by simp [fName, h2]
      rw [e]
      go_enter Tryz.func66, Tryz.ntmps66
      go_wp2_with fail
      go_ret
      exact ⟨rfl, rfl⟩
  · have h1' : (l.length : Int) < 1 := by omega
    have e : fName l = false := by simp [fName, h1]
    rw [e]
    go_enter Tryz.func66, Tryz.ntmps66
    go_wp2_with fail
    go_ret
    exact ⟨rfl, rfl⟩
end Go.Proofs.YtcbjhfnlhpallaaGreatDoor
/- More of label sets in plain words: what is got of a part of a set; of each name the last pair. -/
namespace Go.Proofs.YtcbjhfnlhpallaaGreatDoor

theorem get_nil (n : Str) : fGet [] n = [] := rfl
theorem get_cons (p : Pr) (l : List Pr) (n : Str) : fGet (p :: l) n = if p.1 = n then p.2 else fGet l n := by
  unfold fGet
  rw [List.find?_cons]
  by_cases h : p.1 = n
  · simp [h]
  · simp [h]
theorem get_none {l : List Pr} {n : Str} (h : ∀ p ∈ l, p.1 ≠ n) : fGet l n = [] := by
  induction l with
  | nil => rfl
  | cons p l ih => rw [get_cons, if_neg (h p List.mem_cons_self), ih fun q hq => h q (List.mem_cons_of_mem _ hq)]
theorem get_of_mem {l : List Pr} (hn : (l.map (·.1)).Nodup) {p : Pr} (h : p ∈ l) : fGet l p.1 = p.2 := by
  induction l with
  | nil => cases h
  | cons q l ih =>
    rw [List.map_cons, List.nodup_cons] at hn
    rw [get_cons]
    rcases List.mem_cons.1 h with rfl | h
    · rw [if_pos rfl]
    · have hne : ¬ q.1 = p.1 := fun e => hn.1 (by rw [e]; exact List.mem_map_of_mem (f := fun q : Pr => q.1) h)
      rw [if_neg hne, ih hn.2 h]
theorem nodup_filter {l : List Pr} (hn : (l.map (·.1)).Nodup) (f : Pr → Bool) : ((l.filter f).map (·.1)).Nodup := by
  rw [List.Nodup, List.pairwise_map] at *
  exact hn.filter f
theorem inj_name {l : List Pr} (hn : (l.map (·.1)).Nodup) {p q : Pr} (hp : p ∈ l) (hq : q ∈ l) (e : p.1 = q.1) : p = q := by
  have h1 := get_of_mem hn hp
  have h2 := get_of_mem hn hq
  rw [e, h2] at h1
  exact Prod.ext e h1.symm
theorem get_filter {l : List Pr} (hn : (l.map (·.1)).Nodup) (f : Pr → Bool) {p : Pr} (h : p ∈ l) : fGet (l.filter f) p.1 = if f p = true then p.2 else [] := by
  by_cases hf : f p = true
  · rw [if_pos hf]
    exact get_of_mem (nodup_filter hn f) (List.mem_filter.2 ⟨h, hf⟩)
  · rw [if_neg hf]
    refine get_none fun q hq e => hf ?_
    obtain ⟨h1, h2⟩ := List.mem_filter.1 hq
    rw [inj_name hn h h1 e.symm]
    exact h2
theorem val_ne {s : Str} (h : fVal s = true) : s ≠ [] := fun e => by subst e; simp [fVal] at h
theorem val_len {s : Str} (h : fVal s = true) : 1 ≤ s.length ∧ s.length ≤ 30 := by
  unfold fVal at h
  simp only [Bool.and_eq_true, decide_eq_true_iff] at h
  exact h.1

/-! ### Of each name the last -/
def lastOf : List Pr → List Pr
  | [] => []
  | p :: r => if r.any (fun q => decide (q.1 = p.1)) = true then lastOf r else p :: lastOf r
/-- Of the pairs that lie side by side under one name the last. -/
def ends : List Pr → List Pr
  | [] => []
  | [p] => [p]
  | p :: q :: r => if p.1 = q.1 then ends (q :: r) else p :: ends (q :: r)
/-- The last pair of that name. -/
def lastN (l : List Pr) (n : Str) : Option Pr := (l.filter fun p => decide (p.1 = n)).getLast?
theorem lastN_cons (p : Pr) (l : List Pr) (n : Str) : lastN (p :: l) n = if l.any (fun q => decide (q.1 = n)) = true then lastN l n else if p.1 = n then some p else none := by
  unfold lastN
  by_cases ha : l.any (fun q => decide (q.1 = n)) = true
  · rw [if_pos ha]
    obtain ⟨q, hq, he⟩ := List.any_eq_true.1 ha
    have hne : (l.filter fun p => decide (p.1 = n)) ≠ [] := List.ne_nil_of_mem (List.mem_filter.2 ⟨hq, he⟩)
    rw [List.filter_cons]
    split
    · rw [List.getLast?_cons]
      cases h : (l.filter fun p => decide (p.1 = n)).getLast? with
      | none => exact absurd (List.getLast?_eq_none_iff.1 h) hne
      | some x => rfl
    · rfl
  · rw [if_neg ha]
    have he : (l.filter fun p => decide (p.1 = n)) = [] := by
      rw [List.filter_eq_nil_iff]
      intro q hq e
      exact ha (List.any_eq_true.2 ⟨q, hq, e⟩)
    rw [List.filter_cons, he]
    by_cases h : p.1 = n
    · simp [h]
    · simp [h]
theorem lastOf_mem (l : List Pr) (p : Pr) : p ∈ lastOf l ↔ lastN l p.1 = some p := by
  induction l with
  | nil => simp [lastOf, lastN]
  | cons a l ih =>
    rw [lastN_cons, lastOf]
    by_cases ha : l.any (fun q => decide (q.1 = a.1)) = true
    · rw [if_pos ha, ih]
      by_cases e : a.1 = p.1
      · rw [e] at ha
        rw [if_pos ha]
      · by_cases hb : l.any (fun q => decide (q.1 = p.1)) = true
        · rw [if_pos hb]
        · rw [if_neg hb, if_neg e]
          have : lastN l p.1 = none := by
            unfold lastN
            rw [List.getLast?_eq_none_iff, List.filter_eq_nil_iff]
            exact fun q hq e => hb (List.any_eq_true.2 ⟨q, hq, e⟩)
          rw [this]
    · rw [if_neg ha, List.mem_cons, ih]
      by_cases e : p = a
      · subst e
        rw [if_neg ha, if_pos rfl]
        simp
      · by_cases hb : l.any (fun q => decide (q.1 = p.1)) = true
        · rw [if_pos hb]
          simp [e]
        · rw [if_neg hb]
          have : lastN l p.1 = none := by
            unfold lastN
            rw [List.getLast?_eq_none_iff, List.filter_eq_nil_iff]
            exact fun q hq e => hb (List.any_eq_true.2 ⟨q, hq, e⟩)
          rw [this]
          by_cases e2 : a.1 = p.1
          · rw [if_pos e2]
            simp [e]
            exact fun e' => e e'.symm
          · rw [if_neg e2]
            simp [e]
theorem lastOf_sub {l : List Pr} {p : Pr} (h : p ∈ lastOf l) : p ∈ l := by
  rw [lastOf_mem] at h
  exact (List.mem_filter.1 (List.mem_of_getLast? h)).1
theorem lastOf_nodup (l : List Pr) : ((lastOf l).map (·.1)).Nodup := by
  induction l with
  | nil => simp [lastOf]
  | cons a l ih =>
    rw [lastOf]
    split
    · exact ih
    · rename_i h
      rw [List.map_cons, List.nodup_cons]
      refine ⟨fun hm => ?_, ih⟩
      obtain ⟨q, hq, e⟩ := List.mem_map.1 hm
      exact h (List.any_eq_true.2 ⟨q, lastOf_sub hq, by simpa using e⟩)
theorem ends_sub {l : List Pr} {p : Pr} (h : p ∈ ends l) : p ∈ l := by
  induction l using ends.induct with
  | case1 => simp [ends] at h
  | case2 q => simpa [ends] using h
  | case3 a b r e ih =>
    rw [ends, if_pos e] at h
    exact List.mem_cons_of_mem _ (ih h)
  | case4 a b r e ih =>
    rw [ends, if_neg e] at h
    rcases List.mem_cons.1 h with rfl | h
    · exact List.mem_cons_self
    · exact List.mem_cons_of_mem _ (ih h)
theorem ends_rises {l : List Pr} (h : sortedN l) : rises (ends l) := by
  unfold rises
  induction l using ends.induct with
  | case1 => exact List.Pairwise.nil
  | case2 q => simp [ends]
  | case3 a b r e ih =>
    rw [ends, if_pos e]
    exact ih (List.pairwise_cons.1 h).2
  | case4 a b r e ih =>
    rw [ends, if_neg e, List.pairwise_cons]
    have h' := List.pairwise_cons.1 h
    refine ⟨fun x hx => ?_, ih h'.2⟩
    have hab : a.1 < b.1 := by
      have := h'.1 b List.mem_cons_self
      by_cases k : a.1 < b.1
      · exact k
      · exact absurd (str_eq k this) e
    rcases List.mem_cons.1 (ends_sub hx) with rfl | hx
    · exact hab
    · have := (List.pairwise_cons.1 h'.2).1 x hx
      by_cases k : b.1 < x.1
      · exact str_trans hab k
      · rw [← str_eq k this]; exact hab
theorem ends_mem {l : List Pr} (h : sortedN l) (p : Pr) : p ∈ ends l ↔ lastN l p.1 = some p := by
  induction l using ends.induct with
  | case1 => simp [ends, lastN]
  | case2 q =>
    rw [lastN_cons]
    simp [ends]
    by_cases e : p = q
    · subst e; simp
    · simp [e, Ne.symm e]
  | case3 a b r e ih =>
    have h' := List.pairwise_cons.1 h
    rw [ends, if_pos e, ih h'.2, lastN_cons a]
    by_cases hb : (b :: r).any (fun q => decide (q.1 = p.1)) = true
    · rw [if_pos hb]
    · rw [if_neg hb]
      have h2 : lastN (b :: r) p.1 = none := by
        unfold lastN
        rw [List.getLast?_eq_none_iff, List.filter_eq_nil_iff]
        exact fun q hq e => hb (List.any_eq_true.2 ⟨q, hq, e⟩)
      have h3 : ¬ a.1 = p.1 := fun e' => hb (List.any_eq_true.2 ⟨b, List.mem_cons_self, by simp [← e, e']⟩)
      rw [h2, if_neg h3]
  | case4 a b r e ih =>
    have h' := List.pairwise_cons.1 h
    rw [ends, if_neg e, List.mem_cons, ih h'.2, lastN_cons a]
    have hab : a.1 < b.1 := by
      have := h'.1 b List.mem_cons_self
      by_cases k : a.1 < b.1
      · exact k
      · exact absurd (str_eq k this) e
    have hno : ∀ q ∈ b :: r, q.1 ≠ a.1 := by
      intro q hq eq
      rcases List.mem_cons.1 hq with rfl | hq
      · exact e eq.symm
      · have := (List.pairwise_cons.1 h'.2).1 q hq
        rw [eq] at this
        exact this hab
    by_cases hb : (b :: r).any (fun q => decide (q.1 = p.1)) = true
    · rw [if_pos hb]
      obtain ⟨q, hq, e2⟩ := List.any_eq_true.1 hb
      have : p ≠ a := fun e3 => hno q hq (by simp at e2; rw [e2, e3])
      simp [this]
    · rw [if_neg hb]
      have h2 : lastN (b :: r) p.1 = none := by
        unfold lastN
        rw [List.getLast?_eq_none_iff, List.filter_eq_nil_iff]
        exact fun q hq e => hb (List.any_eq_true.2 ⟨q, hq, e⟩)
      rw [h2]
      by_cases e3 : a.1 = p.1
      · rw [if_pos e3]
        simp
        exact eq_comm
      · rw [if_neg e3]
        have : p ≠ a := fun e4 => e3 (by rw [e4])
        simp [this]
theorem nodup_of_names {l : List Pr} (h : (l.map (·.1)).Nodup) : l.Nodup := by
  rw [List.Nodup, List.pairwise_map] at h
  exact h.imp fun hab e => hab (by rw [e])
theorem perm_of_mem {l m : List Pr} (hl : (l.map (·.1)).Nodup) (hm : (m.map (·.1)).Nodup) (h : ∀ p, p ∈ l ↔ p ∈ m) : l.Perm m :=
  (List.perm_ext_iff_of_nodup (nodup_of_names hl) (nodup_of_names hm)).2 h
/-- What is sorted by name and keeps the order of each name's pairs: the ends are the last ones. -/
theorem ends_eq {s l : List Pr} (hs : sortedN s) (hst : ∀ n, (s.filter fun p => decide (p.1 = n)) = l.filter fun p => decide (p.1 = n)) : ends s = srt (lastOf l) := by
  refine (srt_of ?_ (ends_rises hs)).symm
  refine perm_of_mem (rises_nodup (ends_rises hs)) (lastOf_nodup l) fun p => ?_
  rw [ends_mem hs, lastOf_mem]
  unfold lastN
  rw [hst]
def latest (l p : List Pr) : List Pr := srt (lastOf (l ++ p))
theorem latest_rises (l p : List Pr) : rises (latest l p) :=
  sorted_rises (srt_sorted _) ((((srt_perm _).map (·.1)).nodup_iff).2 (lastOf_nodup _))
def withE (l p : List Pr) : Int := if fIs l = true then (if fIs (full (latest l p)) = true then 0 else 30) else 30
def withL (l p : List Pr) : List Pr := if withE l p = 0 then full (latest l p) else []
theorem make_latest (l p : List Pr) (h : fIs l = true) : makeE (latest l p) = withE l p ∧ makeL (latest l p) = withL l p := by
  have hr := latest_rises l p
  have ht : twice (latest l p) = false := by unfold twice; simpa using rises_nodup hr
  have hs : srt (full (latest l p)) = full (latest l p) := srt_rises (rises_filter hr _)
  have he : makeE (latest l p) = withE l p := by
    unfold makeE withE
    rw [ht, hs, if_pos h, if_neg (by simp)]
  refine ⟨he, ?_⟩
  unfold makeL withL
  rw [he, hs]
end Go.Proofs.YtcbjhfnlhpallaaGreatDoor
/- Slices of pairs; same, big, Get: each for every slice. -/
namespace Go.Proofs.YtcbjhfnlhpallaaGreatDoor
open Go.RowKit

/-- A text as the model has it. -/
abbrev tx (s : Str) : Value := .string ⟨s.toArray⟩
/-- A slice of pairs: as many as are told. -/
def Ps (w : World) (ao : Option Addr) (n : Nat) (l : List Pr) : Prop :=
  l.length = n ∧ (0 < n → ∃ b off, ao = some ⟨b, off, none⟩ ∧ ∀ j, j < n → w.cell? ⟨b, off + j * 2, none⟩ = some (tx (l.getD j ([], [])).1) ∧ w.cell? ⟨b, off + j * 2 + 1, none⟩ = some (tx (l.getD j ([], [])).2))
theorem Ps.later {w w' : World} {ao : Option Addr} {n : Nat} {l : List Pr} (h : Ps w ao n l) (hb : Below w.heap.size w w') : Ps w' ao n l := by
  obtain ⟨h1, h4⟩ := h
  refine ⟨h1, fun hp => ?_⟩
  obtain ⟨b, off, e, hc⟩ := h4 hp
  exact ⟨b, off, e, fun j hj => ⟨(hb.cell (p := ⟨b, off + j * 2, none⟩) (World.block_lt_of_cell? _ _ (hc j hj).1)).trans (hc j hj).1, (hb.cell (p := ⟨b, off + j * 2 + 1, none⟩) (World.block_lt_of_cell? _ _ (hc j hj).2)).trans (hc j hj).2⟩⟩
theorem Ps.nil (w : World) (ao : Option Addr) : Ps w ao 0 [] := ⟨rfl, fun h => by omega⟩
/-- No text is longer than a text can be. -/
def Fit (l : List Pr) : Prop := ∀ p ∈ l, p.1.length ≤ 9223372036854775807 ∧ p.2.length ≤ 9223372036854775807
theorem Fit.at {l : List Pr} (h : Fit l) (j : Nat) : (l.getD j ([], [])).1.length ≤ 9223372036854775807 ∧ (l.getD j ([], [])).2.length ≤ 9223372036854775807 := by
  by_cases hj : j < l.length
  · rw [List.getD, List.getElem?_eq_getElem hj]
    exact h _ (List.getElem_mem hj)
  · rw [List.getD, List.getElem?_eq_none (by omega)]
    simp

/-- A pair that lies in a block of its own. -/
structure Box (w : World) (b : Nat) (p : Pr) : Prop where
  c0 : w.cell? ⟨b, 0, none⟩ = some (tx p.1)
  c1 : w.cell? ⟨b, 1, none⟩ = some (tx p.2)
  f0 : w.frozen? ⟨b, 0, none⟩ = false
  f1 : w.frozen? ⟨b, 1, none⟩ = false
theorem Box.new (w : World) (p : Pr) : Box (w.alloc (.cells #[tx p.1, tx p.2] 58)) w.heap.size p := by
  constructor <;> simp [go_sem]
theorem Box.later {w w' : World} {b : Nat} {p : Pr} (h : Box w b p) (hb : Below w.heap.size w w') : Box w' b p := by
  have hl : b < w.heap.size := World.block_lt_of_cell? _ _ h.c0
  exact ⟨(hb.cell (p := ⟨b, 0, none⟩) hl).trans h.c0, (hb.cell (p := ⟨b, 1, none⟩) hl).trans h.c1, (hb.frozen (p := ⟨b, 0, none⟩) hl).trans h.f0, (hb.frozen (p := ⟨b, 1, none⟩) hl).trans h.f1⟩
theorem Box.lt {w : World} {b : Nat} {p : Pr} (h : Box w b p) : b < w.heap.size := World.block_lt_of_cell? _ _ h.c0

/-! ### Get -/
theorem getD_at {l : List Pr} {k : Nat} (hk : k < l.length) : l.getD k ([], []) = l[k] := by simp [List.getD, List.getElem?_eq_getElem hk]
theorem get_take_skip {l : List Pr} {n : Str} {k : Nat} (hk : k < l.length) (h : (l.getD k ([], [])).1 ≠ n) : fGet (l.drop k) n = fGet (l.drop (k + 1)) n := by
  rw [List.drop_eq_getElem_cons hk, get_cons]
  rw [getD_at hk] at h
  rw [if_neg h]
theorem get_take_hit {l : List Pr} {n : Str} {k : Nat} (hk : k < l.length) (h : (l.getD k ([], [])).1 = n) : fGet (l.drop k) n = (l.getD k ([], [])).2 := by
  rw [List.drop_eq_getElem_cons hk, get_cons]
  rw [getD_at hk] at *
  rw [if_pos h]

set_option maxHeartbeats 1000000 in
theorem get_any (ao : Option Addr) (n cap : Nat) (l : List Pr) (s : Str) (w : World) (hn : n ≤ 9223372036854775807) (hs : Ps w ao n l) :
    Calls Tryz.prog 67 #[.slice ao n cap, tx s] w fun e w' => e = .returned (tx (fGet l s)) ∧ Below w.heap.size w w' := by
  obtain ⟨hlen, hcell⟩ := hs
  have HL : Hid (l.length = n) := hlen
  clear hlen
  go_enter Tryz.func67, Tryz.ntmps67
  go_wp2
  go_loopw [9] (fun i wr => ∃ j : Nat, j ≤ n ∧ i = .int .i64 j ∧ Hid (fGet l s = fGet (l.drop j) s) ∧ Below w.heap.size w wr) (fun i _ => n - (intOf i).toNat)
  case atStart => exact ⟨0, by omega, rfl, rfl, Below.refl _ _⟩
  case round =>
    obtain ⟨j, hj, rfl, hg, hb⟩ := hrel
    by_cases hlt : j < n
    · obtain ⟨b, off, rfl, hc⟩ := hcell (by omega)
      have hc0 := (hc j hlt).1
      have hc1 := (hc j hlt).2
      have k0 := (hb.cell (p := ⟨b, off + j * 2, none⟩) (World.block_lt_of_cell? _ _ hc0)).trans hc0
      have k1 := (hb.cell (p := ⟨b, off + j * 2 + 1, none⟩) (World.block_lt_of_cell? _ _ hc1)).trans hc1
      have hlt' : j < l.length := by rw [HL.out]; exact hlt
      have HSk : Hid _ := get_take_skip (n := s) hlt'
      have HHi : Hid _ := get_take_hit (n := s) hlt'
      clear hc hcell hc0 hc1 hlt'
      have hb1 : ∀ o, Below w.heap.size w (wr.alloc o) := bal hb
      generalize l.getD j ([], []) = p at *
      obtain ⟨p1, p2⟩ := p
      dsimp only at *
      by_cases he : p1 = s
      · have he' : (p1 == s) = true := by simpa using he
        have HR : Hid (fGet l s = p2) := by show _ = _; rw [hg.out, HHi.out he]
        clear he HSk HHi hg
        go_wp2
        go_ret
        exact ⟨by rw [HR.out]; rfl, hb1 _⟩
      · have he' : (p1 == s) = false := by simpa using he
        have HR : Hid (fGet l s = fGet (l.drop (j + 1)) s) := by show _ = _; rw [hg.out, HSk.out he]
        clear he HSk HHi hg
        go_wp2
        go_roundw
        case rel => exact ⟨j + 1, by omega, by go_num, HR, hb1 _⟩
        case measure => simp [intOf]; omega
    · have HR : Hid (fGet l s = []) := by
        show _ = _
        rw [hg.out, List.drop_eq_nil_of_le (by rw [HL.out]; omega)]
        rfl
      go_wp2
      go_ret
      exact ⟨by rw [HR.out]; rfl, hb⟩
end Go.Proofs.YtcbjhfnlhpallaaGreatDoor
/- same, big: each for every slice. -/
namespace Go.Proofs.YtcbjhfnlhpallaaGreatDoor
open Go.RowKit

theorem fields35 : Tryz.prog.underlying 58 = some (.struct (Tryz.prog.fieldsOf 58)) := by kernel_rfl
theorem stood35 : Tryz.prog.stoodInHeld 58 = false := by kernel_rfl
theorem guard35 : Tryz.prog.eqGuardType Tryz.prog.depth 58 = false := by kernel_rfl
theorem eqIn_pair (p q : Pr) (w : World) : (Op.equalIn 10000 58 (.agg #[tx p.1, tx p.2]) (.agg #[tx q.1, tx q.2])).run Tryz.prog w = .ok (decide (p = q)) w := by
  have u9 := Tryz.underlying9
  have a9 := Tryz.isAgg9
  have z9 := Tryz.sizeOf9
  rw [show (10000 : Nat) = 9999 + 1 from rfl, run_equalIn_agg w 9999 58 _ _ fields35 stood35]
  simp only [Program.fieldsOf, Tryz.underlying58]
  go_simp
  obtain ⟨a, b⟩ := p
  obtain ⟨c, d⟩ := q
  by_cases h1 : a = c <;> by_cases h2 : b = d <;> simp [h1, h2]
theorem neq_pair (p q : Pr) (w : World) : (binOp .neq 58 (.agg #[tx p.1, tx p.2]) (.agg #[tx q.1, tx q.2])).run Tryz.prog w = .ok (.bool (!decide (p = q))) w := by
  rw [run_neq_struct, eqIn_pair]
  rfl
theorem guard_pair (x y : Operand) (xs ys : Array Value) (w : World) : (eqGuard .neq 58 x y (.agg xs) (.agg ys)).run Tryz.prog w = .ok () w := run_eqGuard_agg w .neq 58 x y xs ys guard35

def sameB (a b : List Pr) : Bool := decide (a = b)
theorem same_len {a b : List Pr} (h : a.length ≠ b.length) : sameB a b = false := by
  unfold sameB
  exact decide_eq_false fun e => h (by rw [e])
theorem same_not {a b : List Pr} {j : Nat} (h : a.getD j ([], []) ≠ b.getD j ([], [])) : sameB a b = false := by
  unfold sameB
  exact decide_eq_false fun e => h (by rw [e])
theorem same_all {a b : List Pr} (hl : a.length = b.length) (h : a.take a.length = b.take a.length) : sameB a b = true := by
  unfold sameB
  rw [List.take_length, hl, List.take_length] at h
  exact decide_eq_true h
theorem take_next {a b : List Pr} {j : Nat} (ha : j < a.length) (hb : j < b.length) (h : a.take j = b.take j) (e : a.getD j ([], []) = b.getD j ([], [])) : a.take (j + 1) = b.take (j + 1) := by
  rw [getD_at ha, getD_at hb] at e
  rw [List.take_succ_eq_append_getElem ha, List.take_succ_eq_append_getElem hb, h, e]
theorem below_drewN {B : Nat} {a w : World} (h : Below B a w) (k : Nat) : Below B a (w.drewN k) := ⟨h.os, h.tape, h.output, h.size, h.block⟩

def bigP (p : Pr) : Bool := decide (100 < p.1.length) || decide (100 < p.2.length)
def bigB (l : List Pr) : Bool := l.any bigP || decide (20 < l.length)
theorem big_hit {l : List Pr} {j : Nat} (hj : j < l.length) (h : bigP (l.getD j ([], [])) = true) : bigB l = true := by
  unfold bigB
  rw [getD_at hj] at h
  rw [List.any_eq_true.2 ⟨_, List.getElem_mem hj, h⟩]
  rfl
theorem big_next {l : List Pr} {j : Nat} (hj : j < l.length) (ha : (l.take j).any bigP = false) (h : bigP (l.getD j ([], [])) = false) : (l.take (j + 1)).any bigP = false := by
  rw [getD_at hj] at h
  rw [List.take_succ_eq_append_getElem hj, List.any_append, ha]
  simp [h]
theorem big_all {l : List Pr} {j : Nat} (hj : l.length ≤ j) (ha : (l.take j).any bigP = false) : bigB l = decide (20 < l.length) := by
  rw [List.take_of_length_le hj] at ha
  unfold bigB
  rw [ha]
  rfl
theorem big_not {l : List Pr} (h : bigB l = false) : l.length ≤ 20 ∧ ∀ p ∈ l, p.1.length ≤ 100 ∧ p.2.length ≤ 100 := by
  unfold bigB at h
  rw [Bool.or_eq_false_iff] at h
  refine ⟨by simpa using h.2, fun p hp => ?_⟩
  have := List.any_eq_false.1 h.1 p hp
  unfold bigP at this
  simp at this
  omega
end Go.Proofs.YtcbjhfnlhpallaaGreatDoor
/-
  DERIVED: THE SHELF's CONTRACTS AT THIS DUMP, IN PLAIN WORDS (tools/lay-plain.mjs out of 'TrydShelf.lean', which tools/lay-shelf.mjs wrote): THE SAME DECLARATIONS UNDER THE SAME NAMES: 'import', 'namespace', 'open', 'def', 'theorem' AND NOTHING ELSE: no command of the shelf's: FOR A HAND-IN. Each laying: the table of numbers ('.._ren') and one theorem, a field a fact of the dump's own or the kernel's comparison; each contract: ONE APPLICATION.
-/
namespace Go.Proofs
open Go.Shelf
def Tryz.lays106_ren : Go.Shelf.Ren := ⟨fun | 106 => 130 | 213 => 164 | 265 => 183 | n => n, fun | 9 => 9 | 3 => 3 | n => n, fun | n => n⟩
theorem Tryz.lays106 : Go.Proofs.Lays.n106 Tryz.prog Tryz.lays106_ren := {
  mixed := by kernel_rfl
  f106 := Tryz.func130.trans (congrArg some (by kernel_rfl))
  f213 := Tryz.func164.trans (congrArg some (by kernel_rfl))
  f265 := Tryz.func183.trans (congrArg some (by kernel_rfl))
  t3 := Tryz.underlying3
  a3 := Tryz.isAgg3
  z3 := Tryz.sizeOf3
  v3 := Tryz.zeroValue3
  t9 := Tryz.underlying9
  a9 := Tryz.isAgg9
  z9 := Tryz.sizeOf9
  v9 := Tryz.zeroValue9 }
open Go.RowKit in
/-- strings.Compare: "Compare returns an integer comparing two strings lexicographically. The result will be 0 if a == b, -1 if a < b, and +1 if a > b.": IT RETURNS 'Lib.compareBytes a b'; the world is as it was. (LAID: no walk: one application.) -/
theorem Tryz.strings_Compare (a b : ByteArray) (w : World) :
    Calls Tryz.prog 130 #[.string a, .string b] w fun e w' => e = .returned (.int .i64 (Lib.compareBytes a.data.toList b.data.toList)) ∧ w' = w := Any.strings_Compare Tryz.lays106 a b w
def Tryz.lays144_ren : Go.Shelf.Ren := ⟨fun | 144 => 115 | 143 => 95 | 219 => 127 | 217 => 151 | 225 => 152 | 224 => 153 | 267 => 154 | 266 => 176 | 314 => 177 | n => n, fun | 9 => 9 | 4 => 4 | 3 => 3 | 5 => 5 | 46 => 165 | 146 => 203 | 51 => 50 | n => n, fun | 1 => 1 | n => n⟩
theorem Tryz.lays144 : Go.Proofs.Lays.n144 Tryz.prog Tryz.lays144_ren := {
  mixed := by kernel_rfl
  f143 := Tryz.func95.trans (congrArg some (by kernel_rfl))
  f144 := Tryz.func115.trans (congrArg some (by kernel_rfl))
  f217 := Tryz.func151.trans (congrArg some (by kernel_rfl))
  f219 := Tryz.func127.trans (congrArg some (by kernel_rfl))
  f224 := Tryz.func153.trans (congrArg some (by kernel_rfl))
  f225 := Tryz.func152.trans (congrArg some (by kernel_rfl))
  f266 := Tryz.func176.trans (congrArg some (by kernel_rfl))
  f267 := Tryz.func154.trans (congrArg some (by kernel_rfl))
  f314 := Tryz.func177.trans (congrArg some (by kernel_rfl))
  t3 := Tryz.underlying3
  a3 := Tryz.isAgg3
  z3 := Tryz.sizeOf3
  v3 := Tryz.zeroValue3
  t4 := Tryz.underlying4
  a4 := Tryz.isAgg4
  z4 := Tryz.sizeOf4
  v4 := Tryz.zeroValue4
  t5 := Tryz.underlying5
  a5 := Tryz.isAgg5
  z5 := Tryz.sizeOf5
  v5 := Tryz.zeroValue5
  t9 := Tryz.underlying9
  a9 := Tryz.isAgg9
  z9 := Tryz.sizeOf9
  v9 := Tryz.zeroValue9
  t46 := Tryz.underlying165
  a46 := Tryz.isAgg165
  z46 := Tryz.sizeOf165
  v46 := Tryz.zeroValue165
  t51 := Tryz.underlying50
  a51 := Tryz.isAgg50
  z51 := Tryz.sizeOf50
  v51 := Tryz.zeroValue50
  t146 := Tryz.underlying203
  a146 := Tryz.isAgg203
  z146 := Tryz.sizeOf203
  v146 := Tryz.zeroValue203
  g1 := by kernel_rfl }
open Go.RowKit Go.Lib in
/-- strings.Contains: "Contains reports whether substr is within s.": AT A substr OF ONE BYTE c: IT RETURNS 'decide (0 ≤ Lib.indexByte s c)'; the world is as it was. (LAID: no walk: one application.) -/
theorem Tryz.strings_Contains_one (s : ByteArray) (c : UInt8) (w : World) :
    Calls Tryz.prog 115 #[.string s, .string ⟨#[c]⟩] w fun e w' => e = .returned (.bool (decide (0 ≤ Lib.indexByte s.data.toList c))) ∧ w' = w := Any.strings_Contains_one Tryz.lays144 s c w
def Tryz.lays145_ren : Go.Shelf.Ren := ⟨fun | 145 => 69 | 220 => 110 | 219 => 127 | 217 => 151 | 225 => 152 | 224 => 153 | 267 => 154 | 266 => 176 | 314 => 177 | n => n, fun | 9 => 9 | 4 => 4 | 59 => 114 | 3 => 3 | 5 => 5 | 46 => 165 | 146 => 203 | 51 => 50 | n => n, fun | 1 => 1 | n => n⟩
theorem Tryz.lays145 : Go.Proofs.Lays.n145 Tryz.prog Tryz.lays145_ren := {
  mixed := by kernel_rfl
  f145 := Tryz.func69.trans (congrArg some (by kernel_rfl))
  f217 := Tryz.func151.trans (congrArg some (by kernel_rfl))
  f219 := Tryz.func127.trans (congrArg some (by kernel_rfl))
  f220 := Tryz.func110.trans (congrArg some (by kernel_rfl))
  f224 := Tryz.func153.trans (congrArg some (by kernel_rfl))
  f225 := Tryz.func152.trans (congrArg some (by kernel_rfl))
  f266 := Tryz.func176.trans (congrArg some (by kernel_rfl))
  f267 := Tryz.func154.trans (congrArg some (by kernel_rfl))
  f314 := Tryz.func177.trans (congrArg some (by kernel_rfl))
  t3 := Tryz.underlying3
  a3 := Tryz.isAgg3
  z3 := Tryz.sizeOf3
  v3 := Tryz.zeroValue3
  t4 := Tryz.underlying4
  a4 := Tryz.isAgg4
  z4 := Tryz.sizeOf4
  v4 := Tryz.zeroValue4
  t5 := Tryz.underlying5
  a5 := Tryz.isAgg5
  z5 := Tryz.sizeOf5
  v5 := Tryz.zeroValue5
  t9 := Tryz.underlying9
  a9 := Tryz.isAgg9
  z9 := Tryz.sizeOf9
  v9 := Tryz.zeroValue9
  t46 := Tryz.underlying165
  a46 := Tryz.isAgg165
  z46 := Tryz.sizeOf165
  v46 := Tryz.zeroValue165
  t51 := Tryz.underlying50
  a51 := Tryz.isAgg50
  z51 := Tryz.sizeOf50
  v51 := Tryz.zeroValue50
  t59 := Tryz.underlying114
  a59 := Tryz.isAgg114
  z59 := Tryz.sizeOf114
  v59 := Tryz.zeroValue114
  t146 := Tryz.underlying203
  a146 := Tryz.isAgg203
  z146 := Tryz.sizeOf203
  v146 := Tryz.zeroValue203
  g1 := by kernel_rfl }
open Go.RowKit Go.Lib in
/-- strings.Cut: "Cut slices s around the first instance of sep, returning the text before and after sep. The found result reports whether sep appears in s. If sep does not appear in s, cut returns s, "", false.": IT RETURNS 'Lib.cut s sep'; the world is as it was but for the count of draws. (LAID: no walk: one application.) -/
theorem Tryz.strings_Cut (s sep : ByteArray) (m : Int) (w : World) (hs : s.size < 4294967281) (hm : w.cell? ⟨1, 0, none⟩ = some (.int .i64 m)) :
    Calls Tryz.prog 69 #[.string s, .string sep] w fun e w' => e = .returned (.tuple #[.string ⟨(Lib.cut s.data.toList sep.data.toList).1.toArray⟩, .string ⟨(Lib.cut s.data.toList sep.data.toList).2.1.toArray⟩, .bool (Lib.cut s.data.toList sep.data.toList).2.2]) ∧ ∃ n, w' = w.drewN n := Any.strings_Cut Tryz.lays145 s sep m w hs hm
def Tryz.lays101_ren : Go.Shelf.Ren := ⟨fun | 101 => 103 | 208 => 131 | 206 => 135 | n => n, fun | 9 => 9 | 4 => 4 | 3 => 3 | n => n, fun | n => n⟩
theorem Tryz.lays101 : Go.Proofs.Lays.n101 Tryz.prog Tryz.lays101_ren := {
  mixed := by kernel_rfl
  f101 := Tryz.func103.trans (congrArg some (by kernel_rfl))
  f206 := Tryz.func135.trans (congrArg some (by kernel_rfl))
  f208 := Tryz.func131.trans (congrArg some (by kernel_rfl))
  t3 := Tryz.underlying3
  a3 := Tryz.isAgg3
  z3 := Tryz.sizeOf3
  v3 := Tryz.zeroValue3
  t4 := Tryz.underlying4
  a4 := Tryz.isAgg4
  z4 := Tryz.sizeOf4
  v4 := Tryz.zeroValue4
  t9 := Tryz.underlying9
  a9 := Tryz.isAgg9
  z9 := Tryz.sizeOf9
  v9 := Tryz.zeroValue9 }
open Go.RowKit Go.Lib in
/-- strings.TrimPrefix: "TrimPrefix returns s without the provided leading prefix string. If s doesn't start with prefix, s is returned unchanged.": IT RETURNS 'Lib.trimPrefix s prefix'; the world is as it was. (LAID: no walk: one application.) -/
theorem Tryz.strings_TrimPrefix (s p : ByteArray) (w : World) :
    Calls Tryz.prog 103 #[.string s, .string p] w fun e w' => e = .returned (.string ⟨(Lib.trimPrefix s.data.toList p.data.toList).toArray⟩) ∧ w' = w := Any.strings_TrimPrefix Tryz.lays101 s p w
def Tryz.lays110_ren : Go.Shelf.Ren := ⟨fun | 110 => 166 | 109 => 184 | n => n, fun | 31 => 48 | 9 => 9 | 4 => 4 | 3 => 3 | 0 => 0 | n => n, fun | n => n⟩
theorem Tryz.lays110 : Go.Proofs.Lays.n110 Tryz.prog Tryz.lays110_ren := {
  mixed := by kernel_rfl
  f109 := Tryz.func184.trans (congrArg some (by kernel_rfl))
  f110 := Tryz.func166.trans (congrArg some (by kernel_rfl))
  t0 := Tryz.underlying0
  a0 := Tryz.isAgg0
  z0 := Tryz.sizeOf0
  v0 := Tryz.zeroValue0
  t3 := Tryz.underlying3
  a3 := Tryz.isAgg3
  z3 := Tryz.sizeOf3
  v3 := Tryz.zeroValue3
  t4 := Tryz.underlying4
  a4 := Tryz.isAgg4
  z4 := Tryz.sizeOf4
  v4 := Tryz.zeroValue4
  t9 := Tryz.underlying9
  a9 := Tryz.isAgg9
  z9 := Tryz.sizeOf9
  v9 := Tryz.zeroValue9
  t31 := Tryz.underlying48
  a31 := Tryz.isAgg48
  z31 := Tryz.sizeOf48
  v31 := Tryz.zeroValue48 }
open Go.Lib in
/-- slices.Contains at []string: "Contains reports whether v is present in s.": IT RETURNS 'Lib.containsS (the elements) v', which is true just where v is among them ('Lib.containsS_iff'); the world is as it was. ITS CALLEE slices.Index IS MET BY ITS OWN CONTRACT OFF THE SHELF (lay that first): no loop is walked here. (LAID: no walk: one application.) -/
theorem Tryz.slices_Contains_string (b off n c : Nat) (zs : List ByteArray) (x : ByteArray) (w : World) (hz : n ≤ zs.length) (hbig : n ≤ 9223372036854775807) (hc : ∀ j, j < zs.length → w.cell? ⟨b, off + j, none⟩ = some (.string (zs.getD j ByteArray.empty))) :
    Calls Tryz.prog 166 #[.slice (some ⟨b, off, none⟩) n c, .string x] w fun e w' => e = .returned (.bool (Lib.containsS (zs.take n) x)) ∧ w' = w := Any.slices_Contains_string Tryz.lays110 b off n c zs x w hz hbig hc
open Go.Lib in
/-- The same at a slice of length 0, a nil one too. (LAID: no walk: one application.) -/
theorem Tryz.slices_Contains_string_empty (a : Option Addr) (c : Nat) (x : ByteArray) (w : World) :
    Calls Tryz.prog 166 #[.slice a 0 c, .string x] w fun e w' => e = .returned (.bool false) ∧ w' = w := Any.slices_Contains_string_empty Tryz.lays110 a c x w
end Go.Proofs
/- isValue, Is: each for every argument. -/
namespace Go.Proofs.YtcbjhfnlhpallaaGreatDoor
open Go.RowKit

theorem quiet_eq {P : Program} {f : FuncId} {args : Array Value} {w : World} {n : Nat} {v : Value} (h : Calls P f args (w.drewN n) fun e w' => e = .returned v ∧ w.drewN n = w') : Calls P f args (w.drewN n) fun e w'' => e = .returned v ∧ ∃ m, w'' = w.drewN m :=
  h.mono fun _ _ ⟨he, hm⟩ => ⟨he, n, hm.symm⟩
theorem byte_in (l : Str) (c : UInt8) : decide (0 ≤ Lib.indexByte l c) = l.contains c := by
  induction l with
  | nil => rfl
  | cons x l ih =>
    rw [Lib.indexByte, List.contains_cons]
    by_cases h : x = c
    · subst h; simp
    · have h' : ¬ c = x := fun e => h e.symm
      have hge : -1 ≤ Lib.indexByte l c := by
        clear ih
        induction l with
        | nil => simp [Lib.indexByte]
        | cons y l ih =>
          rw [Lib.indexByte]
          split
          · omega
          · split <;> omega
      rw [← ih]
      by_cases h2 : Lib.indexByte l c = -1
      · simp [h, h', h2]
      · have h3 : (Lib.indexByte l c == -1) = false := by simpa using h2
        have h4 : (x == c) = false := by simpa using h
        have h5 : (c == x) = false := by simpa using h'
        rw [h3, h4, h5, if_neg (by simp), if_neg (by simp), Bool.false_or, decide_eq_decide]
        omega
theorem contains_any (s : Str) (w : World) : Calls Tryz.prog 115 #[tx s, .string ⟨#[10]⟩] w fun e w' => e = .returned (.bool (s.contains 10)) ∧ w = w' := by
  refine (Tryz.strings_Contains_one ⟨s.toArray⟩ 10 w).mono ?_
  rintro e w' ⟨rfl, rfl⟩
  exact ⟨by rw [← byte_in], rfl⟩
theorem isValue_any (s : Str) (w : World) (hl : s.length ≤ 9223372036854775807) : Calls Tryz.prog 83 #[tx s] w fun e w' => e = .returned (.bool (fVal s)) ∧ w = w' := by
  have hc := contains_any s
  unfold fVal
  by_cases h1 : 1 ≤ s.length
  · have h1' : (1 : Int) ≤ s.length := by omega
    by_cases h2 : s.length ≤ 30
    · have h2' : (s.length : Int) ≤ 30 := by omega
      generalize s.contains 10 = r at *
      go_enter Tryz.func83, Tryz.ntmps83
      go_wp2_with (go_at_call 115; refine (hc _).mono ?_; rintro e w' ⟨rfl, rfl⟩)
      go_ret
      exact ⟨by simp [h1, h2], rfl⟩
    · have h2' : ¬ (s.length : Int) ≤ 30 := by omega
      go_enter Tryz.func83, Tryz.ntmps83
      go_wp2
      go_ret
      exact ⟨by simp, rfl⟩
  · have h1' : ¬ (1 : Int) ≤ s.length := by omega
    go_enter Tryz.func83, Tryz.ntmps83
    go_wp2
    go_ret
    exact ⟨by simp, rfl⟩

theorem is_not {l : List Pr} {j : Nat} (hj : j < l.length) (h : okAt l j = false) : fIs l = false := by
  cases hi : fIs l with
  | false => rfl
  | true =>
    unfold fIs at hi
    rw [Bool.and_eq_true] at hi
    rw [List.all_eq_true.1 hi.2 j (List.mem_range.2 hj)] at h
    cases h
theorem is_all {l : List Pr} (h8 : l.length ≤ 8) (h : ∀ i, i < l.length → okAt l i = true) : fIs l = true := by
  unfold fIs
  rw [Bool.and_eq_true]
  exact ⟨decide_eq_true h8, List.all_eq_true.2 fun i hi => h i (List.mem_range.1 hi)⟩

set_option maxHeartbeats 2000000 in
theorem is_any (xa : Option Addr) (n c : Nat) (l : List Pr) (w : World) (hn : n ≤ 9223372036854775807) (hf : Fit l) (hx : Ps w xa n l) :
    Calls Tryz.prog 44 #[.slice xa n c] w fun e w' => e = .returned (.bool (fIs l)) ∧ Below w.heap.size w w' := by
  obtain ⟨hla, hca⟩ := hx
  have HA : Hid (l.length = n) := hla
  clear hla
  by_cases h8 : n ≤ 8
  · have h8' : ¬ (8 : Int) < n := by omega
    go_enter Tryz.func44, Tryz.ntmps44
    go_wp2
    go_loopw [10] (fun i wr => ∃ j : Nat, j ≤ n ∧ i = .int .i64 j ∧ Hid (∀ i, i < j → okAt l i = true) ∧ Below w.heap.size w wr) (fun i _ => n - (intOf i).toNat)
    case atStart => exact ⟨0, by omega, rfl, fun i h => by omega, Below.refl _ _⟩
    case round =>
      obtain ⟨j, hj, rfl, ht, hb⟩ := hrel
      by_cases hlt : j < n
      · obtain ⟨b1, o1, rfl, h1⟩ := hca (by omega)
        obtain ⟨c10, c11⟩ := h1 j hlt
        have k0 := (hb.cell (p := ⟨b1, o1 + j * 2, none⟩) (World.block_lt_of_cell? _ _ c10)).trans c10
        have k1 := (hb.cell (p := ⟨b1, o1 + j * 2 + 1, none⟩) (World.block_lt_of_cell? _ _ c11)).trans c11
        have HN : Hid (okAt l j = true → ∀ i, i < j + 1 → okAt l i = true) := fun h i hi => by
          by_cases e : i = j
          · rw [e]; exact h
          · exact ht.out i (by omega)
        have HF : Hid (okAt l j = false → fIs l = false) := is_not (by rw [HA.out]; exact hlt)
        have hfa := hf.at j
        have hnm := fun w => name_any (l.getD j ([], [])).1 w hfa.1
        have hvl := fun w => isValue_any (l.getD j ([], [])).2 w hfa.2
        have HO : Hid (okAt l j = (fName (l.getD j ([], [])).1 && fVal (l.getD j ([], [])).2 && (decide (j = 0) || decide ((l.getD (j - 1) ([], [])).1 < (l.getD j ([], [])).1)))) := rfl
        have hb1 : ∀ o, Below w.heap.size w (wr.alloc o) := bal hb
        clear hfa
        by_cases h0 : j = 0
        · have h0' : ¬ (0 : Int) < j := by omega
          have h0d : decide (0 < j) = false := decide_eq_false (by omega)
          have HO' : Hid (okAt l j = (fName (l.getD j ([], [])).1 && fVal (l.getD j ([], [])).2)) := by
            show _ = _
            rw [HO.out, h0]; simp
          clear h1 hca c10 c11 HO
          generalize okAt l j = ok at *
          generalize l.getD j ([], []) = p at *
          obtain ⟨p1, p2⟩ := p
          dsimp only at *
          cases hN : fName p1 with
          | false =>
            have HR : Hid (fIs l = false) := HF.out (by rw [HO'.out, hN]; rfl)
            rw [hN] at hnm
            clear HO' HF HN hN h0
            go_wp2
            go_quiet ((first | (go_at_call 66; exact quiet_eq (hnm _)) | (go_at_call 83; exact quiet_eq (hvl _))))
            go_wp2
            go_ret
            exact ⟨by rw [HR.out]; rfl, below_drewN (hb1 _) _⟩
          | true =>
            rw [hN] at hnm
            cases hV : fVal p2 with
            | false =>
              have HR : Hid (fIs l = false) := HF.out (by rw [HO'.out, hN, hV]; rfl)
              rw [hV] at hvl
              clear HO' HF HN hN hV h0
              go_wp2
              go_quiet ((first | (go_at_call 66; exact quiet_eq (hnm _)) | (go_at_call 83; exact quiet_eq (hvl _))))
              go_wp2
              go_ret
              exact ⟨by rw [HR.out]; rfl, below_drewN (hb1 _) _⟩
            | true =>
              have HR : Hid (∀ i, i < j + 1 → okAt l i = true) := HN.out (by rw [HO'.out, hN, hV]; rfl)
              rw [hV] at hvl
              clear HO' HF HN hN hV h0
              go_wp2
              go_quiet ((first | (go_at_call 66; exact quiet_eq (hnm _)) | (go_at_call 83; exact quiet_eq (hvl _))))
              go_wp2
              go_roundw
              case rel => exact ⟨j + 1, by omega, by go_num, HR, below_drewN (hb1 _) _⟩
              case measure => simp [intOf]; omega
        · obtain ⟨k, rfl⟩ : ∃ k, j = k + 1 := ⟨j - 1, by omega⟩
          obtain ⟨c00, _⟩ := h1 k (by omega)
          have kk := (hb.cell (p := ⟨b1, o1 + k * 2, none⟩) (World.block_lt_of_cell? _ _ c00)).trans c00
          have kn : ∀ o, (wr.alloc o).cell? ⟨b1, o1 + k * 2, none⟩ = some (tx (l.getD k ([], [])).1) := fun o => ((bal (Below.refl _ wr) o).cell (p := ⟨b1, o1 + k * 2, none⟩) (World.block_lt_of_cell? _ _ kk)).trans kk
          have HO' : Hid (okAt l (k + 1) = (fName (l.getD (k + 1) ([], [])).1 && fVal (l.getD (k + 1) ([], [])).2 && decide ((l.getD k ([], [])).1 < (l.getD (k + 1) ([], [])).1))) := by
            show _ = _
            rw [HO.out]; simp
          have h0d : decide ((0 : Int) < ((k + 1 : Nat) : Int)) = true := decide_eq_true (by omega)
          have hlss := less_eq (l.getD k ([], [])).1 (l.getD (k + 1) ([], [])).1
          clear h1 hca c10 c11 HO c00 kk
          generalize okAt l (k + 1) = ok at *
          generalize l.getD (k + 1) ([], []) = p at *
          generalize l.getD k ([], []) = q at *
          obtain ⟨p1, p2⟩ := p
          obtain ⟨q1, q2⟩ := q
          dsimp only at *
          cases hN : fName p1 with
          | false =>
            have HR : Hid (fIs l = false) := HF.out (by rw [HO'.out, hN]; rfl)
            rw [hN] at hnm
            clear HO' HF HN hN h0 hlss
            go_wp2
            go_quiet ((first | (go_at_call 66; exact quiet_eq (hnm _)) | (go_at_call 83; exact quiet_eq (hvl _))))
            go_wp2
            go_ret
            exact ⟨by rw [HR.out]; rfl, below_drewN (hb1 _) _⟩
          | true =>
            rw [hN] at hnm
            cases hV : fVal p2 with
            | false =>
              have HR : Hid (fIs l = false) := HF.out (by rw [HO'.out, hN, hV]; rfl)
              rw [hV] at hvl
              clear HO' HF HN hN hV h0 hlss
              go_wp2
              go_quiet ((first | (go_at_call 66; exact quiet_eq (hnm _)) | (go_at_call 83; exact quiet_eq (hvl _))))
              go_wp2
              go_ret
              exact ⟨by rw [HR.out]; rfl, below_drewN (hb1 _) _⟩
            | true =>
              rw [hV] at hvl
              by_cases hq : q1 < p1
              · have HR : Hid (∀ i, i < k + 1 + 1 → okAt l i = true) := HN.out (by rw [HO'.out, hN, hV]; simpa using hq)
                rw [decide_eq_true hq] at hlss
                clear HO' HF HN hN hV h0 hq
                go_wp2
                go_quiet ((first | (go_at_call 66; exact quiet_eq (hnm _)) | (go_at_call 83; exact quiet_eq (hvl _))))
                go_wp2
                go_roundw
                case rel => exact ⟨k + 1 + 1, by omega, by go_num, HR, below_drewN (hb1 _) _⟩
                case measure => simp [intOf]; omega
              · have HR : Hid (fIs l = false) := HF.out (by rw [HO'.out, hN, hV]; simpa using hq)
                rw [decide_eq_false hq] at hlss
                clear HO' HF HN hN hV h0 hq
                go_wp2
                go_quiet ((first | (go_at_call 66; exact quiet_eq (hnm _)) | (go_at_call 83; exact quiet_eq (hvl _))))
                go_wp2
                go_ret
                exact ⟨by rw [HR.out]; rfl, below_drewN (hb1 _) _⟩
      · have HT' : Hid (fIs l = true) := is_all (by rw [HA.out]; omega) (fun i hi => ht.out i (by rw [HA.out] at hi; omega))
        go_wp2
        go_ret
        exact ⟨by rw [HT'.out]; rfl, hb⟩
  · have h8' : (8 : Int) < n := by omega
    have HT' : Hid (fIs l = false) := by
      show _ = _
      unfold fIs
      rw [decide_eq_false (by rw [HA.out]; omega)]
      rfl
    go_enter Tryz.func44, Tryz.ntmps44
    go_wp2
    go_ret
    exact ⟨by rw [HT'.out]; rfl, Below.refl _ _⟩
end Go.Proofs.YtcbjhfnlhpallaaGreatDoor
/-
  DERIVED: THE SHELF's CONTRACTS AT THIS DUMP, IN PLAIN WORDS (tools/lay-plain.mjs out of 'TrydShelf.lean', which tools/lay-shelf.mjs wrote): THE SAME DECLARATIONS UNDER THE SAME NAMES: 'import', 'namespace', 'open', 'def', 'theorem' AND NOTHING ELSE: no command of the shelf's: FOR A HAND-IN. Each laying: the table of numbers ('.._ren') and one theorem, a field a fact of the dump's own or the kernel's comparison; each contract: ONE APPLICATION.
-/
namespace Go.Proofs
open Go.Shelf
def Tryz.sortP_ren : Go.Shelf.Ren := ⟨fun | 6 => 98 | 15 => 129 | 14 => 128 | 28 => 163 | 29 => 144 | 20 => 155 | 21 => 156 | 22 => 157 | 23 => 158 | 24 => 159 | 25 => 160 | 26 => 161 | 27 => 162 | 46 => 178 | 47 => 179 | 48 => 180 | 49 => 181 | 50 => 182 | 57 => 188 | n => n, fun | 22 => 30 | 24 => 58 | 25 => 143 | 3 => 3 | 39 => 165 | 0 => 0 | 53 => 50 | 55 => 56 | 4 => 4 | 46 => 185 | 45 => 184 | 50 => 87 | 5 => 5 | 9 => 9 | 66 => 205 | 70 => 209 | 76 => 219 | 77 => 220 | n => n, fun | n => n⟩
theorem Tryz.sortP : Go.Proofs.SlLaysF0.n6 Tryz.prog Tryz.sortP_ren := {
  mixed := by kernel_rfl
  f6 := ⟨Tryz.f98.name, by decide, Tryz.func98.trans (congrArg some (by kernel_rfl))⟩
  f14 := ⟨Tryz.f128.name, by decide, Tryz.func128.trans (congrArg some (by kernel_rfl))⟩
  f15 := Tryz.func129.trans (congrArg some (by kernel_rfl))
  f20 := ⟨Tryz.f155.name, by decide, Tryz.func155.trans (congrArg some (by kernel_rfl))⟩
  f21 := ⟨Tryz.f156.name, by decide, Tryz.func156.trans (congrArg some (by kernel_rfl))⟩
  f22 := ⟨Tryz.f157.name, by decide, Tryz.func157.trans (congrArg some (by kernel_rfl))⟩
  f23 := ⟨Tryz.f158.name, by decide, Tryz.func158.trans (congrArg some (by kernel_rfl))⟩
  f24 := ⟨Tryz.f159.name, by decide, Tryz.func159.trans (congrArg some (by kernel_rfl))⟩
  f25 := ⟨Tryz.f160.name, by decide, Tryz.func160.trans (congrArg some (by kernel_rfl))⟩
  f26 := ⟨Tryz.f161.name, by decide, Tryz.func161.trans (congrArg some (by kernel_rfl))⟩
  f27 := ⟨Tryz.f162.name, by decide, Tryz.func162.trans (congrArg some (by kernel_rfl))⟩
  f28 := Tryz.func163.trans (congrArg some (by kernel_rfl))
  f29 := Tryz.func144.trans (congrArg some (by kernel_rfl))
  f46 := ⟨Tryz.f178.name, by decide, Tryz.func178.trans (congrArg some (by kernel_rfl))⟩
  f47 := Tryz.func179.trans (congrArg some (by kernel_rfl))
  f48 := Tryz.func180.trans (congrArg some (by kernel_rfl))
  f49 := ⟨Tryz.f181.name, by decide, Tryz.func181.trans (congrArg some (by kernel_rfl))⟩
  f50 := ⟨Tryz.f182.name, by decide, Tryz.func182.trans (congrArg some (by kernel_rfl))⟩
  f57 := ⟨Tryz.f188.name, by decide, Tryz.func188.trans (congrArg some (by kernel_rfl))⟩
  t0 := Tryz.underlying0
  a0 := Tryz.isAgg0
  z0 := Tryz.sizeOf0
  v0 := Tryz.zeroValue0
  t3 := Tryz.underlying3
  a3 := Tryz.isAgg3
  z3 := Tryz.sizeOf3
  v3 := Tryz.zeroValue3
  t4 := Tryz.underlying4
  a4 := Tryz.isAgg4
  z4 := Tryz.sizeOf4
  v4 := Tryz.zeroValue4
  t5 := Tryz.underlying5
  a5 := Tryz.isAgg5
  z5 := Tryz.sizeOf5
  v5 := Tryz.zeroValue5
  t9 := Tryz.underlying9
  a9 := Tryz.isAgg9
  z9 := Tryz.sizeOf9
  v9 := Tryz.zeroValue9
  t22 := Tryz.underlying30
  a22 := Tryz.isAgg30
  z22 := Tryz.sizeOf30
  v22 := Tryz.zeroValue30
  t25 := Tryz.underlying143
  a25 := Tryz.isAgg143
  z25 := Tryz.sizeOf143
  v25 := Tryz.zeroValue143
  t39 := Tryz.underlying165
  a39 := Tryz.isAgg165
  z39 := Tryz.sizeOf165
  v39 := Tryz.zeroValue165
  t45 := Tryz.underlying184
  a45 := Tryz.isAgg184
  z45 := Tryz.sizeOf184
  v45 := Tryz.zeroValue184
  t46 := Tryz.underlying185
  a46 := Tryz.isAgg185
  z46 := Tryz.sizeOf185
  v46 := Tryz.zeroValue185
  t50 := Tryz.underlying87
  a50 := Tryz.isAgg87
  z50 := Tryz.sizeOf87
  v50 := Tryz.zeroValue87
  t53 := Tryz.underlying50
  a53 := Tryz.isAgg50
  z53 := Tryz.sizeOf50
  v53 := Tryz.zeroValue50
  t55 := Tryz.underlying56
  a55 := Tryz.isAgg56
  z55 := Tryz.sizeOf56
  v55 := Tryz.zeroValue56
  t66 := Tryz.underlying205
  a66 := Tryz.isAgg205
  z66 := Tryz.sizeOf205
  v66 := Tryz.zeroValue205
  t70 := Tryz.underlying209
  a70 := Tryz.isAgg209
  z70 := Tryz.sizeOf209
  v70 := Tryz.zeroValue209
  t76 := Tryz.underlying219
  a76 := Tryz.isAgg219
  z76 := Tryz.sizeOf219
  v76 := Tryz.zeroValue219
  t77 := Tryz.underlying220
  a77 := Tryz.isAgg220
  z77 := Tryz.sizeOf220
  v77 := Tryz.zeroValue220 }
def Tryz.insP_ren : Go.Shelf.Ren := ⟨fun | 20 => 155 | n => n, fun | 24 => 58 | 22 => 30 | 3 => 3 | 25 => 143 | 4 => 4 | 0 => 0 | n => n, fun | n => n⟩
theorem Tryz.insP : Go.Proofs.SlLaysF0.n20 Tryz.prog Tryz.insP_ren := {
  mixed := by kernel_rfl
  f20 := ⟨Tryz.f155.name, by decide, Tryz.func155.trans (congrArg some (by kernel_rfl))⟩
  t0 := Tryz.underlying0
  a0 := Tryz.isAgg0
  z0 := Tryz.sizeOf0
  v0 := Tryz.zeroValue0
  t3 := Tryz.underlying3
  a3 := Tryz.isAgg3
  z3 := Tryz.sizeOf3
  v3 := Tryz.zeroValue3
  t4 := Tryz.underlying4
  a4 := Tryz.isAgg4
  z4 := Tryz.sizeOf4
  v4 := Tryz.zeroValue4
  t22 := Tryz.underlying30
  a22 := Tryz.isAgg30
  z22 := Tryz.sizeOf30
  v22 := Tryz.zeroValue30
  t25 := Tryz.underlying143
  a25 := Tryz.isAgg143
  z25 := Tryz.sizeOf143
  v25 := Tryz.zeroValue143 }
def Tryz.cloneP_ren : Go.Shelf.Ren := ⟨fun | 41 => 97 | n => n, fun | 22 => 30 | 23 => 58 | 4 => 4 | n => n, fun | n => n⟩
theorem Tryz.cloneP : Go.Proofs.SlLaysE0.n41 Tryz.prog Tryz.cloneP_ren := {
  mixed := by kernel_rfl
  f41 := ⟨Tryz.f97.name, by decide, Tryz.func97.trans (congrArg some (by kernel_rfl))⟩
  t4 := Tryz.underlying4
  a4 := Tryz.isAgg4
  z4 := Tryz.sizeOf4
  v4 := Tryz.zeroValue4
  t22 := Tryz.underlying30
  a22 := Tryz.isAgg30
  z22 := Tryz.sizeOf30
  v22 := Tryz.zeroValue30 }
end Go.Proofs
/- byName, byNameThenValue, slices.CompareFunc at these, Cmp: each for every argument. -/
namespace Go.Proofs.YtcbjhfnlhpallaaGreatDoor
open Go.RowKit Go.Shelf Go.Lib Go.Sort

theorem compare_any (a b : Str) (w : World) : Calls Tryz.prog 130 #[tx a, tx b] w fun e w' => e = .returned (.int .i64 (Lib.compareBytes a b)) ∧ w = w' := by
  refine (Tryz.strings_Compare ⟨a.toArray⟩ ⟨b.toArray⟩ w).mono ?_
  rintro e w' ⟨rfl, rfl⟩
  exact ⟨rfl, rfl⟩
theorem byName_grow (p q : Pr) (w : World) : Calls Tryz.prog 99 #[.agg #[tx p.1, tx p.2], .agg #[tx q.1, tx q.2]] w fun e w' => e = .returned (.int .i64 (Lib.compareBytes p.1 q.1)) ∧ ∃ k os', w' = grow (w.drewN k) os' := by
  have hc := compare_any p.1 q.1
  generalize Lib.compareBytes p.1 q.1 = r at hc ⊢
  go_enter Tryz.func99, Tryz.ntmps99
  go_wp2_with (go_at_call 130; refine (hc _).mono ?_; rintro e w' ⟨rfl, rfl⟩)
  go_ret
  exact ⟨rfl, 0, _, by rw [alloc_eq_grow, alloc_eq_grow, grow_grow]; rfl⟩
theorem byName_any (p q : Pr) (w : World) : Calls Tryz.prog 99 #[.agg #[tx p.1, tx p.2], .agg #[tx q.1, tx q.2]] w fun e w' => e = .returned (.int .i64 (Lib.compareBytes p.1 q.1)) ∧ Below w.heap.size w w' := by
  have hc := compare_any p.1 q.1
  generalize Lib.compareBytes p.1 q.1 = r at hc ⊢
  go_enter Tryz.func99, Tryz.ntmps99
  go_wp2_with (go_at_call 130; refine (hc _).mono ?_; rintro e w' ⟨rfl, rfl⟩)
  go_ret
  exact ⟨rfl, bal (bal (Below.refl _ _) _) _⟩
/-- What is left to compare behind j pairs. -/
theorem cmp_drop_eq {a b : List Pr} {j : Nat} (ha : j < a.length) (hb : j < b.length) (h : pCmp (a.getD j ([], [])) (b.getD j ([], [])) = 0) : fCmp (a.drop j) (b.drop j) = fCmp (a.drop (j + 1)) (b.drop (j + 1)) := by
  rw [List.drop_eq_getElem_cons ha, List.drop_eq_getElem_cons hb, fCmp]
  rw [getD_at ha, getD_at hb] at h
  rw [if_pos h]
theorem cmp_drop_ne {a b : List Pr} {j : Nat} (ha : j < a.length) (hb : j < b.length) (h : pCmp (a.getD j ([], [])) (b.getD j ([], [])) ≠ 0) : fCmp (a.drop j) (b.drop j) = pCmp (a.getD j ([], [])) (b.getD j ([], [])) := by
  rw [List.drop_eq_getElem_cons ha, List.drop_eq_getElem_cons hb, fCmp]
  rw [getD_at ha, getD_at hb] at *
  rw [if_neg h]
theorem cmp_long {a b : List Pr} {j : Nat} (ha : j < a.length) (hb : b.length ≤ j) : fCmp (a.drop j) (b.drop j) = 1 := by
  rw [List.drop_eq_getElem_cons ha, List.drop_eq_nil_of_le hb, fCmp]
theorem cmp_end {a b : List Pr} {j : Nat} (ha : a.length ≤ j) : fCmp (a.drop j) (b.drop j) = if j < b.length then -1 else 0 := by
  rw [List.drop_eq_nil_of_le ha]
  by_cases h : j < b.length
  · rw [if_pos h, List.drop_eq_getElem_cons h, fCmp]
  · rw [if_neg h, List.drop_eq_nil_of_le (by omega), fCmp]

end Go.Proofs.YtcbjhfnlhpallaaGreatDoor
/- only: the pairs that are wanted, in new memory. -/
namespace Go.Proofs.YtcbjhfnlhpallaaGreatDoor
open Go.RowKit

/-- A slice's cells, one behind the other. -/
def cellsP (l : List Pr) : List Value := l.flatMap fun p => [tx p.1, tx p.2]
theorem cellsP_nil : cellsP [] = [] := rfl
theorem cellsP_cons (p : Pr) (l : List Pr) : cellsP (p :: l) = tx p.1 :: tx p.2 :: cellsP l := rfl
theorem cellsP_append (l m : List Pr) : cellsP (l ++ m) = cellsP l ++ cellsP m := by simp [cellsP]
theorem cellsP_length (l : List Pr) : (cellsP l).length = l.length * 2 := by
  induction l with
  | nil => rfl
  | cons p l ih => rw [cellsP_cons]; simp; omega
theorem cellsP_one (l : List Pr) : ∀ u ∈ cellsP l, u.oneCell' = true := by
  intro u hu
  induction l with
  | nil => cases hu
  | cons p l ih =>
    rw [cellsP_cons] at hu
    rcases List.mem_cons.1 hu with rfl | hu
    · rfl
    · rcases List.mem_cons.1 hu with rfl | hu
      · rfl
      · exact ih hu
theorem cellsP_get {l : List Pr} {j : Nat} (h : j < l.length) : (cellsP l)[j * 2]? = some (tx (l.getD j ([], [])).1) ∧ (cellsP l)[j * 2 + 1]? = some (tx (l.getD j ([], [])).2) := by
  induction l generalizing j with
  | nil => simp at h
  | cons p l ih =>
    rw [cellsP_cons]
    cases j with
    | zero => simp
    | succ j =>
      have := ih (j := j) (by simpa using h)
      have e : (j + 1) * 2 = j * 2 + 1 + 1 := by omega
      rw [e]
      simpa using this
theorem info35 : (Tryz.prog.info? 58).map (fun i => (i.zero, i.size, i.bytes)) = some (some (.agg #[tx [], tx []]), 2, 32) := by kernel_rfl
theorem info_parts35 : ∃ i, Tryz.prog.info? 58 = some i ∧ i.zero = some (.agg #[tx [], tx []]) ∧ i.size = 2 ∧ i.bytes = 32 := by
  have h := info35
  cases hi : Tryz.prog.info? 58 with
  | none => rw [hi] at h; cases h
  | some i =>
    rw [hi] at h
    simp only [Option.map_some, Option.some.injEq, Prod.mk.injEq] at h
    exact ⟨i, rfl, h.1, h.2.1, h.2.2⟩
theorem zero35 : (Value.agg #[tx [], tx []]).cells.size = 2 := by kernel_rfl
/-- New memory of its own that holds these pairs. -/
def Own (w : World) (base : Nat) (v : Value) (l : List Pr) : Prop := w.ownsRow base 58 2 v l.length (cellsP l)
theorem Own.slice {w : World} {base : Nat} {v : Value} {l : List Pr} (h : Own w base v l) : ∃ ao cap, v = .slice ao l.length cap ∧ Ps w ao l.length l ∧ l.length ≤ cap := by
  rcases h.2 with ⟨rfl, h0⟩ | ⟨g, cap, cur, rfl, hb, hg, hn, _, hs, ht⟩
  · have : l = [] := List.length_eq_zero_iff.1 h0
    subst this
    exact ⟨none, 0, rfl, Ps.nil _ _, Nat.le_refl _⟩
  · refine ⟨_, cap, rfl, ⟨rfl, fun _ => ⟨g, 0, rfl, fun j hj => ?_⟩⟩, hn⟩
    have e : ∀ i, i < l.length * 2 → w.cell? ⟨g, 0 + i, none⟩ = (cellsP l)[i]? := fun i hi => by
      rw [cell_of_row _ _ _ _ _ _ hg, ← ht, List.getElem?_take_of_lt hi, Nat.zero_add]
      exact (Array.getElem?_toList).symm
    obtain ⟨g1, g2⟩ := cellsP_get hj
    exact ⟨(e _ (by omega)).trans g1, (e (j * 2 + 1) (by omega)).trans g2⟩

theorem Own.later {w w' : World} {base : Nat} {v : Value} {l : List Pr} (h : Own w base v l) (hb : Below w.heap.size w w') : Own w' base v l := by
  refine ⟨h.1, ?_⟩
  rcases h.2 with h0 | ⟨g, cap, cur, hv, hg0, hg, hn, hm, hs, ht⟩
  · exact Or.inl h0
  · have hlt : g < w.heap.size := by
      by_cases hlt : g < w.heap.size
      · exact hlt
      · rw [Array.getElem?_eq_none (by omega)] at hg; cases hg
    exact Or.inr ⟨g, cap, cur, hv, hg0, (hb.block g hlt).trans hg, hn, hm, hs, ht⟩
theorem Box.cells {w : World} {b : Nat} {p : Pr} (h : Box w b p) : ∀ i u, (cellsP [p])[i]? = some u → w.cell? ((⟨b, 0, none⟩ : Addr).add i) = some u := by
  intro i u hu
  rw [Addr.add_lit, Nat.zero_add]
  match i, hu with
  | 0, hu => rw [h.c0]; exact hu
  | 1, hu => rw [h.c1]; exact hu
  | i + 2, hu => simp [cellsP] at hu
theorem Own.snoc {w : World} {base : Nat} {v : Value} {l : List Pr} {p : Pr} (h : w.ownsRow base 58 2 v (l.length + 1) (cellsP l ++ cellsP [p])) : Own w base v (l ++ [p]) := by
  unfold Own
  rw [cellsP_append, List.length_append]
  exact h
theorem take_filter_yes {l : List Pr} {f : Pr → Bool} {j : Nat} (hj : j < l.length) (h : f (l.getD j ([], [])) = true) : (l.take (j + 1)).filter f = (l.take j).filter f ++ [l.getD j ([], [])] := by
  rw [getD_at hj] at *
  rw [List.take_succ_eq_append_getElem hj, List.filter_append]
  simp [h]
theorem take_filter_no {l : List Pr} {f : Pr → Bool} {j : Nat} (hj : j < l.length) (h : f (l.getD j ([], [])) = false) : (l.take (j + 1)).filter f = (l.take j).filter f := by
  rw [getD_at hj] at *
  rw [List.take_succ_eq_append_getElem hj, List.filter_append]
  simp [h]

set_option maxHeartbeats 2000000 in
theorem only_any (xa : Option Addr) (n c : Nat) (l : List Pr) (g : Nat) (cb : Array Value) (f : Pr → Bool) (w : World) (hn : n ≤ 1000000) (hx : Ps w xa n l)
    (eg : ∀ args w, (callFunc g args).run Tryz.prog w = .ok (.enter g args) w)
    (hp : ∀ p W, Below w.heap.size w W → Calls Tryz.prog g (#[.agg #[tx p.1, tx p.2]] ++ cb) W fun e w' => e = .returned (.bool (f p)) ∧ Below W.heap.size W w') :
    Calls Tryz.prog 100 #[.slice xa n c, .func (.func g) #[] cb] w fun e w' => ∃ v, e = .returned v ∧ Own w' w.heap.size v (l.filter f) ∧ Below w.heap.size w w' := by
  obtain ⟨i0, hi, hz0, hz1, hz2⟩ := info_parts35
  obtain ⟨hla, hca⟩ := hx
  have HA : Hid (l.length = n) := hla
  clear hla
  have HP : Aside _ := hp
  clear hp
  go_enter Tryz.func100, Tryz.ntmps100
  go_wp2
  go_loopw [11, 5] (fun i v wr => ∃ j : Nat, j ≤ n ∧ i = .int .i64 j ∧ Own wr w.heap.size v ((l.take j).filter f) ∧ Below w.heap.size w wr) (fun i _ _ => n - (intOf i).toNat)
  case atStart => exact ⟨0, by omega, rfl, World.ownsRow_made w #[] 0 (Nat.le_refl _) (Nat.zero_le _) (by simp), bal (Below.refl _ _) _⟩
  case round =>
    obtain ⟨j, hj, rfl, ho, hb⟩ := hrel
    by_cases hlt : j < n
    · obtain ⟨b1, o1, rfl, h1⟩ := hca (by omega)
      obtain ⟨c10, c11⟩ := h1 j hlt
      have k0 := (hb.cell (p := ⟨b1, o1 + j * 2, none⟩) (World.block_lt_of_cell? _ _ c10)).trans c10
      have k1 := (hb.cell (p := ⟨b1, o1 + j * 2 + 1, none⟩) (World.block_lt_of_cell? _ _ c11)).trans c11
      have hlt' : j < l.length := by rw [HA.out]; exact hlt
      have HY : Hid _ := take_filter_yes (f := f) hlt'
      have HN : Hid _ := take_filter_no (f := f) hlt'
      have hle : ((l.take j).filter f).length ≤ j := Nat.le_trans (List.length_filter_le _ _) (List.length_take_le _ _)
      clear h1 hca c10 c11 hlt'
      generalize l.getD j ([], []) = p at *
      have hbx := Box.new wr p
      have hb1 := bal hb (.cells #[tx p.1, tx p.2] 58)
      have ho1 := ho.later (bal (Below.refl _ _) (.cells #[tx p.1, tx p.2] 58))
      cases hfp : f p with
      | false =>
        have HN' := HN.out hfp
        have HN2 : Hid _ := HN'
        clear HN HY HN'
        go_wp2_with (go_at_fn g; refine (HP.out p _ hb1).mono ?_; rw [hfp]; rintro e w1 ⟨rfl, hb2⟩)
        go_roundw
        case rel => exact ⟨j + 1, by omega, by go_num, by rw [HN2.out]; exact ho1.later hb2, Below.chain hb1 hb2⟩
        case measure => simp [intOf]; omega
      | true =>
        have HN' := HY.out hfp
        have HN2 : Hid _ := HN'
        clear HN HY HN'
        go_wp2_with (first | (go_at_fn g; refine (HP.out p _ hb1).mono ?_; rw [hfp]; rintro e w1 ⟨rfl, hb2⟩; obtain ⟨d0, d1, _, _⟩ := hbx.later hb2; have ho3 := (ho1.later hb2).later (bal (Below.refl _ _) (.cells #[tx p.1, tx p.2] 58)); have hbx3 := Box.new w1 p) | (at_builtin; go_must (refine wpList_append_own _ rfl _ _ 30 rfl w.heap.size 58 i0 (.agg #[tx [], tx []]) 2 32 Tryz.underlying30 hi hz0 hz1 hz2 zero35 (by decide) _ _ _ rfl ho3 ⟨w1.heap.size, 0, none⟩ 1 1 (cellsP [p]) rfl rfl ?hnews (cellsP_one _) ?h63 ?hby ?hbs ?_)))
        case hnews => exact fun i u hu => hbx3.cells i u hu
        case h63 => unfold maxLen; omega
        case hby => omega
        case hbs => exact (bal (Below.chain hb1 hb2) _).size
        intro v' w2 ho4 hg4 _
        go_wp2
        go_roundw
        case rel => exact ⟨j + 1, by omega, by go_num, by rw [HN2.out]; exact Own.snoc ho4, (bal (Below.chain hb1 hb2) _).grown hg4 (bal (Below.chain hb1 hb2) _).size (fun k hk => (World.ownsRow.lt ho3 k hk).1)⟩
        case measure => simp [intOf]; omega
    · have HR : Hid ((l.take j).filter f = l.filter f) := by show _ = _; rw [List.take_of_length_le (by rw [HA.out]; omega)]
      rw [HR.out] at ho
      go_wp2
      go_ret
      exact ⟨_, rfl, ho, hb⟩
end Go.Proofs.YtcbjhfnlhpallaaGreatDoor
/- slices.Clone, slices.SortFunc by names: each for every slice of pairs. -/
namespace Go.Proofs.YtcbjhfnlhpallaaGreatDoor
open Go.RowKit

set_option maxHeartbeats 1000000 in
theorem clone_any (xa : Option Addr) (n c : Nat) (l : List Pr) (w : World) (hn : n ≤ 1000000) (hx : Ps w xa n l) :
    Calls Tryz.prog 97 #[.slice xa n c] w fun e w' => ∃ v, e = .returned v ∧ Own w' w.heap.size v l ∧ Below w.heap.size w w' := by
  obtain ⟨i0, hi, hz0, hz1, hz2⟩ := info_parts35
  have q23 : ∀ (w : World) (a : Option Addr) (n c n' c' : Nat), (binOp .eql 30 (.slice a n c) (.slice none n' c')).run Tryz.prog w = .ok (.bool a.isNone) w := fun w a n c n' c' => Lib.run_eql_slice_nil w _ _ a n c n' c' Tryz.underlying30
  have hlen := hx.1
  cases xa with
  | none =>
    have h0 : n = 0 := by
      by_cases h : 0 < n
      · obtain ⟨_, _, e, _⟩ := hx.2 h; cases e
      · omega
    subst h0
    obtain rfl : l = [] := List.length_eq_zero_iff.1 hlen
    go_enter Tryz.func97, Tryz.ntmps97
    go_wp2
    go_ret
    exact ⟨_, rfl, ⟨rfl, Or.inl ⟨rfl, rfl⟩⟩, Below.refl _ _⟩
  | some ad =>
    have hc : ∀ j u, (cellsP l)[j]? = some u → w.cell? (ad.add j) = some u := by
      intro j u hu
      have hj : j < l.length * 2 := by
        by_cases h : j < l.length * 2
        · exact h
        · rw [List.getElem?_eq_none (by rw [cellsP_length]; omega)] at hu; cases hu
      obtain ⟨b, off, e, h4⟩ := hx.2 (by omega)
      cases e
      rw [Addr.add_lit]
      have hjd : j / 2 < l.length := by omega
      obtain ⟨g1, g2⟩ := cellsP_get hjd
      obtain ⟨k1, k2⟩ := h4 (j / 2) (by omega)
      rcases Nat.mod_two_eq_zero_or_one j with hm | hm
      · have e : j / 2 * 2 = j := by omega
        rw [e] at g1 k1
        rw [k1, ← hu, g1]
      · have e : j / 2 * 2 + 1 = j := by omega
        rw [Nat.add_assoc, e] at k2
        rw [e] at g2
        rw [k2, ← hu, g2]
    have HC : Aside _ := hc
    have HL : Hid _ := hlen
    clear hc hlen
    go_enter Tryz.func97, Tryz.ntmps97
    go_wp2_with (at_builtin; go_must (refine wpList_append_own _ rfl _ _ 30 rfl w.heap.size 58 i0 (.agg #[tx [], tx []]) 2 32 Tryz.underlying30 hi hz0 hz1 hz2 zero35 (by decide) _ _ _ rfl (World.ownsRow_made w #[] 0 (Nat.le_refl _) (Nat.zero_le _) (by simp)) ad n c (cellsP l) rfl ?q1 ?q2 (cellsP_one _) ?q3 ?q4 ?q5 ?_))
    case q1 => rw [cellsP_length, HL.out]
    case q2 => exact fun j u hu => ((bal (Below.refl _ w) _).cell (p := ad.add j) (World.block_lt_of_cell? _ _ (HC.out j u hu))).trans (HC.out j u hu)
    case q3 => unfold maxLen; omega
    case q4 => omega
    case q5 => simp
    intro v' w1 hown hgrow _
    go_wp2
    go_ret
    refine ⟨v', rfl, ?_, (bal (Below.refl _ _) _).grown hgrow (by simp) (by intro k hk; simp [Value.ownBlock] at hk; omega)⟩
    unfold Own
    rw [HL.out]
    simpa using hown

/-! ### Sorted by names -/
def encP (p : Pr) : List Value := [tx p.1, tx p.2]
theorem cellsP_flat (l : List Pr) (t : Nat) (h : t < l.length * 2) : (cellsP l)[t]? = some (Sort.flatK encP 2 l.toArray)[t]! := by
  rw [Sort.get_flatK _ _ _ _ (by simpa using h)]
  have hd : t / 2 < l.length := by omega
  obtain ⟨g1, g2⟩ := cellsP_get hd
  have e0 : l.toArray[t / 2]! = l.getD (t / 2) ([], []) := by
    rw [getElem!_pos l.toArray (t / 2) (by simpa using hd), getD_at hd]
    rfl
  rw [e0]
  rcases Nat.mod_two_eq_zero_or_one t with hm | hm
  · have e : t / 2 * 2 = t := by omega
    rw [e] at g1
    rw [g1, hm]
    rfl
  · have e : t / 2 * 2 + 1 = t := by omega
    rw [e] at g2
    rw [g2, hm]
    rfl
theorem Own.holds {w : World} {base g n cap : Nat} {l : List Pr} (h : Own w base (.slice (some ⟨g, 0, none⟩) n cap) l) : Sort.HoldsK encP 2 w g 0 l.toArray ∧ n = l.length ∧ base ≤ g ∧ g < w.heap.size := by
  have h' := h
  rcases h.2 with ⟨e, _⟩ | ⟨g', cap', cur, e, hb, hg, hn, _, hs, ht⟩
  · cases e
  · cases e
    have hlt : g < w.heap.size := by
      by_cases hlt : g < w.heap.size
      · exact hlt
      · rw [Array.getElem?_eq_none (by omega)] at hg; cases hg
    refine ⟨fun j hj => ?_, rfl, hb, hlt⟩
    rw [Sort.size_flatK] at hj
    have hj' : j < l.length * 2 := by simpa using hj
    refine ⟨?_, ?_⟩
    · rw [cell_of_row _ _ _ _ _ _ hg, Nat.zero_add]
      show _ = some (Sort.flatK encP 2 l.toArray)[j]!
      rw [← cellsP_flat l j hj', ← ht, List.getElem?_take_of_lt hj']
      exact (Array.getElem?_toList).symm
    · exact World.ownsRow.frozenAt h' (0 + j)
theorem Ps.of_holds {w : World} {g : Nat} {d : Array Pr} (h : Sort.HoldsK encP 2 w g 0 d) : Ps w (some ⟨g, 0, none⟩) d.size d.toList := by
  refine ⟨by simp, fun _ => ⟨g, 0, rfl, fun j hj => ?_⟩⟩
  have e0 : d[j]! = d.toList.getD j ([], []) := by
    rw [getElem!_pos d j hj, getD_at (by simpa using hj)]
    rfl
  have h0 := (Sort.HoldsK.cell h (i := j) (c := 0) hj (by omega)).1
  have h1 := (Sort.HoldsK.cell h (i := j) (c := 1) hj (by omega)).1
  rw [e0] at h0 h1
  exact ⟨h0, h1⟩
def nameF (p q : Pr) : Int := Lib.compareBytes p.1 q.1
theorem lt_name (p q : Pr) : ltOf nameF p q = decide (p.1 < q.1) := by
  unfold ltOf nameF
  exact cmpB_lt p.1 q.1
theorem swo_name : Sort.SWO (ltOf nameF) := by
  refine ⟨fun x => ?_, fun x y z h1 h2 => ?_, fun x y z h1 h2 => ?_⟩
  · rw [lt_name]; exact decide_eq_false (str_irrefl _)
  · rw [lt_name, decide_eq_true_iff] at *
    exact str_trans h1 h2
  · rw [lt_name, decide_eq_false_iff_not] at *
    intro h
    by_cases k : y.1 < z.1
    · exact h2 k
    · by_cases k2 : z.1 < y.1
      · exact h1 (str_trans h k2)
      · rw [← str_eq k k2] at h; exact h1 h
theorem lays_name (blk off size : Nat) (w : World) : CmpLays Tryz.prog 99 #[] encP 2 nameF blk off size w := fun _ _ _ _ x y => byName_grow x y _
theorem enters41 : ∀ args w, (callFunc 99 args).run Tryz.prog w = .ok (.enter 99 args) w := enters_of Tryz.func99 (by kernel_rfl) rfl
theorem below_sort {B g m : Nat} {w0 w : World} {d : Array Pr} {os : Array Obj} (h : Below B w0 w) (hg : B ≤ g) (hB : B ≤ w.heap.size) : Below B w0 (sortWorldK encP 2 w g 0 m d os) := by
  have h1 : Below B w0 (Sort.putRowK encP 2 (Sort.ahead w m) g 0 d) := Lib.below_putRow h hg
  have hs : (Sort.putRowK encP 2 (Sort.ahead w m) g 0 d).heap.size = w.heap.size := by
    show (Sort.putRow id (Sort.ahead w m) g 0 _).heap.size = _
    rw [Sort.size_putRow]
    rfl
  exact h1.trans (Lib.below_grow B _ (by rw [hs]; exact hB) 0 os)
/-- Behind the sort: the same place holds the same pairs by their names. -/
theorem sort_any (v : Value) (base : Nat) (l : List Pr) (w0 w : World) (ho : Own w base v l) (hn : l.length ≤ 1000000) (hb : Below base w0 w) (hB : base ≤ w0.heap.size) :
    Calls Tryz.prog 98 #[v, .func (.func 99) #[] #[]] w fun e w' => e = .returned (.tuple #[]) ∧ ∃ ao cap m, v = .slice ao l.length cap ∧ Ps w' ao l.length m ∧ m.Perm l ∧ sortedN m ∧ Below base w0 w' := by
  rcases ho.2 with ⟨rfl, h0⟩ | ⟨g, cap, cur, rfl, _⟩
  · obtain rfl : l = [] := List.length_eq_zero_iff.1 h0
    have hcon := AnyF.slices_SortFunc_none Tryz.sortP none 0 (.func (.func 99) #[] #[]) w
    change Calls Tryz.prog 98 _ _ _ at hcon
    refine hcon.mono ?_
    rintro e w' ⟨rfl, rfl⟩
    exact ⟨rfl, none, 0, [], rfl, Ps.nil _ _, List.Perm.refl _, List.Pairwise.nil, hb⟩
  · obtain ⟨hH, _, hbg, hlt⟩ := Own.holds ho
    have hcon := AnyQ.slices_SortFunc Tryz.sortP 2 Tryz.isAgg58 Tryz.sizeOf58 encP (fun _ => rfl) (fun x u hu => by simp [encP] at hu; rcases hu with rfl | rfl <;> rfl) nameF swo_name 99 #[] g 0 cap l.toArray w enters41 (lays_name g 0 _ w) hH hlt (by simp; omega)
    change Calls Tryz.prog 98 _ _ _ at hcon
    have es : l.toArray.size = l.length := by simp
    rw [es] at hcon
    refine hcon.mono ?_
    rintro e w' ⟨rfl, d', n, os, hp, hs, rfl⟩
    have hsz : d'.size = l.length := by rw [hp.1]; simp
    have hH' := holdsK_sortWorldK_c encP 2 w g 0 l.toArray d' n os hH hlt (by rw [hsz]; simp)
    have hps := Ps.of_holds hH'
    rw [hsz] at hps
    refine ⟨rfl, _, _, d'.toList, rfl, hps, ?_, ?_, below_sort hb hbg (Nat.le_trans hB hb.size)⟩
    · have h2 := hp.2.2
      have e1 : (d'.extract 0 l.length) = d' := by rw [← hsz]; exact Array.extract_size
      have e2 : (l.toArray.extract 0 l.length) = l.toArray := by rw [← es]; exact Array.extract_size
      rw [e1, e2] at h2
      exact h2
    · unfold sortedN
      rw [List.pairwise_iff_getElem]
      intro i j hi hj hij
      simp at hi hj
      have := hs i j (Nat.zero_le _) hij (by omega)
      rw [lt_name, decide_eq_false_iff_not, getElem!_pos d' i (by omega), getElem!_pos d' j (by omega)] at this
      exact this
end Go.Proofs.YtcbjhfnlhpallaaGreatDoor
/- Make: for every slice of pairs. -/
namespace Go.Proofs.YtcbjhfnlhpallaaGreatDoor
open Go.RowKit

theorem Own.base {w : World} {b b' : Nat} {v : Value} {l : List Pr} (h : Own w b' v l) (hb : b ≤ b') : Own w b v l := by
  refine ⟨h.1, ?_⟩
  rcases h.2 with h0 | ⟨g, cap, cur, hv, hg0, r⟩
  · exact Or.inl h0
  · exact Or.inr ⟨g, cap, cur, hv, Nat.le_trans hb hg0, r⟩
theorem Own.none (w : World) (b : Nat) : Own w b (.slice none 0 0) [] := ⟨rfl, Or.inl ⟨rfl, rfl⟩⟩
theorem Fit.perm {l m : List Pr} (h : Fit l) (hp : m.Perm l) : Fit m := fun p hm => h p (hp.mem_iff.1 hm)
theorem Fit.filter {l : List Pr} (h : Fit l) (f : Pr → Bool) : Fit (l.filter f) := fun p hm => h p (List.mem_filter.1 hm).1
theorem adj_twice {l m : List Pr} (hp : m.Perm l) {j : Nat} (hj : j + 1 < m.length) (h : (m.getD j ([], [])).1 = (m.getD (j + 1) ([], [])).1) : twice l = true := by
  unfold twice
  rw [Bool.not_eq_true', decide_eq_false_iff_not]
  intro hn
  have hn' : (m.map (·.1)).Nodup := (hp.map (·.1)).nodup_iff.2 hn
  rw [getD_at (show j < m.length by omega), getD_at hj] at h
  rw [List.Nodup, List.pairwise_map, List.pairwise_iff_getElem] at hn'
  exact hn' j (j + 1) (by omega) hj (by omega) h
theorem adj_done {l m : List Pr} (hp : m.Perm l) (hs : sortedN m) (h : ∀ i, i + 1 < m.length → (m.getD i ([], [])).1 ≠ (m.getD (i + 1) ([], [])).1) : twice l = false ∧ srt (full l) = full m := by
  have hr : rises m := rises_of fun i h0 hi => by
    obtain ⟨k, rfl⟩ : ∃ k, i = k + 1 := ⟨i - 1, by omega⟩
    have h1 := h k hi
    have h2 : ¬ (m.getD (k + 1) ([], [])).1 < (m.getD k ([], [])).1 := by
      rw [getD_at hi, getD_at (show k < m.length by omega)]
      unfold sortedN at hs
      rw [List.pairwise_iff_getElem] at hs
      exact hs k (k + 1) (by omega) hi (by omega)
    show (m.getD k ([], [])).1 < _
    by_cases h3 : (m.getD k ([], [])).1 < (m.getD (k + 1) ([], [])).1
    · exact h3
    · exact absurd (str_eq h3 h2) h1
  have hn : (l.map (·.1)).Nodup := (hp.map (·.1)).nodup_iff.1 (rises_nodup hr)
  refine ⟨by unfold twice; simpa using hn, ?_⟩
  exact srt_of (hp.filter _) (rises_filter hr _)
theorem hasValue_any (p : Pr) (w : World) : Calls Tryz.prog 101 #[.agg #[tx p.1, tx p.2]] w fun e w' => e = .returned (.bool (!p.2.isEmpty)) ∧ Below w.heap.size w w' := by
  obtain ⟨a, b⟩ := p
  cases b with
  | nil =>
    go_enter Tryz.func101, Tryz.ntmps101
    go_wp2
    go_ret
    exact ⟨rfl, bal (Below.refl _ _) _⟩
  | cons c r =>
    go_enter Tryz.func101, Tryz.ntmps101
    go_wp2
    go_ret
    exact ⟨rfl, bal (Below.refl _ _) _⟩
theorem enters42 : ∀ args w, (callFunc 101 args).run Tryz.prog w = .ok (.enter 101 args) w := enters_of Tryz.func101 (by kernel_rfl) rfl

set_option maxHeartbeats 2000000 in
theorem make_any (xa : Option Addr) (n c : Nat) (l : List Pr) (w : World) (hn : n ≤ 1000000) (hf : Fit l) (hx : Ps w xa n l) :
    Calls Tryz.prog 63 #[.slice xa n c] w fun e w' => ∃ v, e = .returned (.tuple #[v, .int .i64 (makeE l)]) ∧ Own w' w.heap.size v (makeL l) ∧ Below w.heap.size w w' := by
  have HL : Hid (l.length = n) := hx.1
  go_enter Tryz.func63, Tryz.ntmps63
  go_wp2_with fail
  refine (clone_any xa n c l w hn hx).mono ?_
  rintro e w1 ⟨v, rfl, ho1, hb1⟩
  have hs := sort_any v w.heap.size l w w1 ho1 (by rw [HL.out]; exact hn) hb1 (Nat.le_refl _)
  obtain ⟨ao, cap, rfl, _, _⟩ := ho1.slice
  go_wp2_with fail
  refine hs.mono ?_
  rintro e w2 ⟨rfl, ao', cap', m, he, hps, hp, hsrt, hb2⟩
  cases he
  rw [HL.out] at hps
  rw [HL.out]
  have HM : Hid (m.length = n) := hps.1
  have hps' := hps
  obtain ⟨_, hcell⟩ := hps'
  have HP : Hid (m.Perm l) := hp
  have HS : Hid (sortedN m) := hsrt
  clear hs hx hp hsrt
  go_wp2_with fail
  go_loopw [5] (fun i wr => ∃ j k : Nat, (j < n ∨ n = 0 ∧ j = 0) ∧ i = .int .i64 (j + 1 : Nat) ∧ Hid (∀ i, i < j → (m.getD i ([], [])).1 ≠ (m.getD (i + 1) ([], [])).1) ∧ wr = w2.drewN k) (fun i _ => n + 1 - (intOf i).toNat)
  case atStart => exact ⟨0, 0, by omega, rfl, fun i h => by omega, rfl⟩
  case round =>
    obtain ⟨j, k, hj, rfl, ht, rfl⟩ := hrel
    by_cases hlt : j + 1 < n
    · obtain ⟨b1, o1, rfl, h1⟩ := hcell (by omega)
      obtain ⟨c0, _⟩ := h1 j (by omega)
      obtain ⟨c1, _⟩ := h1 (j + 1) hlt
      have HT : Hid ((m.getD j ([], [])).1 = (m.getD (j + 1) ([], [])).1 → twice l = true) := adj_twice HP.out (by rw [HM.out]; exact hlt)
      have HN : Hid ((m.getD j ([], [])).1 ≠ (m.getD (j + 1) ([], [])).1 → ∀ i, i < j + 1 → (m.getD i ([], [])).1 ≠ (m.getD (i + 1) ([], [])).1) := fun h i hi => by
        by_cases e : i = j
        · rw [e]; exact h
        · exact ht.out i (by omega)
      clear h1 hcell
      generalize (m.getD j ([], [])).1 = p at *
      generalize (m.getD (j + 1) ([], [])).1 = q at *
      by_cases hpq : p = q
      · have HE : Hid (makeE l = 31) := by show _ = _; unfold makeE; rw [if_pos (HT.out hpq)]
        have HLL : Hid (makeL l = []) := by show _ = _; unfold makeL; rw [HE.out]; rfl
        have hpq' : (p == q) = true := by simpa using hpq
        clear HT HN hpq
        go_wp2
        go_quiet (fail)
        go_wp2
        go_ret2
        exact ⟨_, by rw [HE.out]; rfl, by rw [HLL.out]; exact Own.none _ _, below_drewN (below_drewN hb2 _) _⟩
      · have HR : Hid (∀ i, i < j + 1 → (m.getD i ([], [])).1 ≠ (m.getD (i + 1) ([], [])).1) := HN.out hpq
        have hpq' : (p == q) = false := by simpa using hpq
        clear HT HN hpq
        go_wp2
        go_quiet (fail)
        go_wp2
        go_roundw
        case rel => exact ⟨j + 1, _, by omega, by go_num, HR, rfl⟩
        case measure => simp [intOf]; omega
    · have HD := adj_done HP.out HS.out (fun i hi => ht.out i (by rw [HM.out] at hi; omega))
      have HD1 : Hid (twice l = false) := HD.1
      have HD2 : Hid (srt (full l) = full m) := HD.2
      clear HD ht
      have hbk : Below w2.heap.size w2 (w2.drewN k) := below_drewN (Below.refl _ _) _
      have hon := only_any ao n cap m 101 #[] (fun p => !p.2.isEmpty) (w2.drewN k) hn (hps.later hbk) enters42 (fun p W _ => hasValue_any p W)
      go_wp2_with fail
      refine hon.mono ?_
      rintro e w3 ⟨v3, rfl, ho3, hb3⟩
      have ho3' : Own w3 (w2.drewN k).heap.size v3 (full m) := ho3
      obtain ⟨ao3, cap3, rfl, hps3, _⟩ := ho3'.slice
      have hle : (full m).length ≤ 1000000 := Nat.le_trans (List.length_filter_le _ _) (by rw [HM.out]; exact hn)
      have his := is_any ao3 (full m).length cap3 (full m) w3 (by omega) (Fit.filter (Fit.perm hf HP.out) _) hps3
      have hb23 : Below w.heap.size w w3 := (below_drewN hb2 k).trans (hb3.mono (below_drewN hb2 k).size)
      have ho4 : Own w3 w.heap.size (.slice ao3 (full m).length cap3) (full m) := ho3'.base (below_drewN hb2 k).size
      clear hon ho3 ho3'
      cases hi : fIs (full m) with
      | true =>
        rw [hi] at his
        have HE : Hid (makeE l = 0) := by show _ = _; unfold makeE; rw [HD1.out, HD2.out, if_neg (by simp), if_pos hi]
        have HLL : Hid (makeL l = full m) := by show _ = _; unfold makeL; rw [HE.out, if_pos rfl, HD2.out]
        clear hi
        go_wp2_with fail
        refine his.mono ?_
        rintro e w4 ⟨rfl, hb4⟩
        go_wp2
        go_ret2
        exact ⟨_, by rw [HE.out]; rfl, by rw [HLL.out]; exact ho4.later hb4, hb23.trans (hb4.mono hb23.size)⟩
      | false =>
        rw [hi] at his
        have HE : Hid (makeE l = 30) := by show _ = _; unfold makeE; rw [HD1.out, HD2.out, if_neg (by simp), if_neg (by rw [hi]; simp)]
        have HLL : Hid (makeL l = []) := by show _ = _; unfold makeL; rw [HE.out]; rfl
        clear hi
        go_wp2_with fail
        refine his.mono ?_
        rintro e w4 ⟨rfl, hb4⟩
        go_wp2
        go_ret2
        exact ⟨_, by rw [HE.out]; rfl, by rw [HLL.out]; exact Own.none _ _, hb23.trans (hb4.mono hb23.size)⟩
end Go.Proofs.YtcbjhfnlhpallaaGreatDoor
/- Keep, Without: for every slice of pairs, of names. -/
namespace Go.Proofs.YtcbjhfnlhpallaaGreatDoor
open Go.RowKit

/-- A slice of texts. -/
def Ss (w : World) (ao : Option Addr) (n : Nat) (l : List Str) : Prop :=
  l.length = n ∧ (0 < n → ∃ b off, ao = some ⟨b, off, none⟩ ∧ ∀ j, j < n → w.cell? ⟨b, off + j, none⟩ = some (tx (l.getD j [])))
theorem Ss.later {w w' : World} {ao : Option Addr} {n : Nat} {l : List Str} (h : Ss w ao n l) (hb : Below w.heap.size w w') : Ss w' ao n l := by
  obtain ⟨h1, h4⟩ := h
  refine ⟨h1, fun hp => ?_⟩
  obtain ⟨b, off, e, hc⟩ := h4 hp
  exact ⟨b, off, e, fun j hj => (hb.cell (p := ⟨b, off + j, none⟩) (World.block_lt_of_cell? _ _ (hc j hj))).trans (hc j hj)⟩
theorem Ss.nil (w : World) (ao : Option Addr) : Ss w ao 0 [] := ⟨rfl, fun h => by omega⟩
theorem mk_inj {a b : Str} (h : (⟨a.toArray⟩ : ByteArray) = ⟨b.toArray⟩) : a = b := by
  have := congrArg (fun x : ByteArray => x.data.toList) h
  simpa using this
theorem contains_map (l : List Str) (x : Str) : Lib.containsS (l.map fun s => (⟨s.toArray⟩ : ByteArray)) ⟨x.toArray⟩ = l.contains x := by
  rw [Bool.eq_iff_iff, Lib.containsS_iff, List.contains_iff_mem]
  constructor
  · intro h
    obtain ⟨a, ha, e⟩ := List.mem_map.1 h
    rw [← mk_inj e]
    exact ha
  · intro h
    exact List.mem_map.2 ⟨x, h, rfl⟩
theorem in_any (ao : Option Addr) (n c : Nat) (l : List Str) (x : Str) (w : World) (hn : n ≤ 9223372036854775807) (h : Ss w ao n l) :
    Calls Tryz.prog 166 #[.slice ao n c, tx x] w fun e w' => e = .returned (.bool (l.contains x)) ∧ w = w' := by
  by_cases h0 : n = 0
  · subst h0
    obtain rfl : l = [] := List.length_eq_zero_iff.1 h.1
    refine (Tryz.slices_Contains_string_empty ao c ⟨x.toArray⟩ w).mono ?_
    rintro e w' ⟨rfl, rfl⟩
    exact ⟨rfl, rfl⟩
  · obtain ⟨hl, h4⟩ := h
    obtain ⟨b, off, rfl, hc⟩ := h4 (by omega)
    refine (Tryz.slices_Contains_string b off n c (l.map fun s => (⟨s.toArray⟩ : ByteArray)) ⟨x.toArray⟩ w (by simp [hl]) hn (fun j hj => ?_)).mono ?_
    · have hj' : j < l.length := by simpa using hj
      rw [hc j (by omega)]
      simp [List.getD, List.getElem?_eq_getElem hj']
    · rintro e w' ⟨rfl, rfl⟩
      refine ⟨?_, rfl⟩
      rw [List.take_of_length_le (by simp [hl]), contains_map]
theorem without1_any (p : Pr) (bx : Nat) (ao : Option Addr) (n c : Nat) (l : List Str) (w : World) (hn : n ≤ 9223372036854775807) (h : Ss w ao n l) (hb : w.cell? ⟨bx, 0, none⟩ = some (.slice ao n c)) :
    Calls Tryz.prog 165 #[.agg #[tx p.1, tx p.2], .pointer (some ⟨bx, 0, none⟩)] w fun e w' => e = .returned (.bool (!decide (p.1 = nm) && !l.contains p.1)) ∧ Below w.heap.size w w' := by
  have hi := in_any ao n c l p.1
  have hlt := World.block_lt_of_cell? _ _ hb
  have hk : ∀ o, (w.alloc o).cell? ⟨bx, 0, none⟩ = some (.slice ao n c) := fun o => ((bal (Below.refl _ w) o).cell (p := ⟨bx, 0, none⟩) hlt).trans hb
  have hb1 : ∀ o, Below w.heap.size w (w.alloc o) := bal (Below.refl _ _)
  generalize l.contains p.1 = r at *
  obtain ⟨p1, p2⟩ := p
  dsimp only at *
  by_cases hp : p1 = nm
  · have hp' : (p1 == [95, 95, 110, 97, 109, 101, 95, 95]) = true := by simpa [nm] using hp
    have HP : Hid (decide (p1 = nm) = true) := decide_eq_true hp
    rw [HP.out]
    clear hp
    go_enter Tryz.func165, Tryz.ntmps165
    go_wp2
    go_ret
    exact ⟨rfl, hb1 _⟩
  · have hp' : (p1 == [95, 95, 110, 97, 109, 101, 95, 95]) = false := by simpa [nm] using hp
    have HP : Hid (decide (p1 = nm) = false) := decide_eq_false hp
    rw [HP.out]
    clear hp
    go_enter Tryz.func165, Tryz.ntmps165
    go_wp2_with (go_at_call 166; refine (hi _ hn (h.later (hb1 _))).mono ?_; rintro e w' ⟨rfl, rfl⟩)
    go_ret
    exact ⟨by simp, hb1 _⟩
theorem enters38 : ∀ args w, (callFunc 165 args).run Tryz.prog w = .ok (.enter 165 args) w := enters_of Tryz.func165 (by kernel_rfl) rfl
theorem without_any (xa : Option Addr) (n c : Nat) (l : List Pr) (ya : Option Addr) (m d : Nat) (ns : List Str) (w : World) (hn : n ≤ 1000000) (hm : m ≤ 9223372036854775807) (hx : Ps w xa n l) (hy : Ss w ya m ns) :
    Calls Tryz.prog 132 #[.slice xa n c, .slice ya m d] w fun e w' => ∃ v, e = .returned v ∧ Own w' w.heap.size v (fWithout l ns) ∧ Below w.heap.size w w' := by
  have hb0 := bal (Below.refl _ w) (.cells #[.slice ya m d] 48)
  have hbx : (w.alloc (.cells #[.slice ya m d] 48)).cell? ⟨w.heap.size, 0, none⟩ = some (.slice ya m d) := World.cell?_alloc_new w _ _ 0
  have hon := only_any xa n c l 165 #[.pointer (some ⟨w.heap.size, 0, none⟩)] (fun p => !decide (p.1 = nm) && !ns.contains p.1) (w.alloc (.cells #[.slice ya m d] 48)) hn (hx.later hb0) enters38
    (fun p W hW => without1_any p w.heap.size ya m d ns W hm ((hy.later hb0).later hW) ((hW.cell (p := ⟨w.heap.size, 0, none⟩) (World.block_lt_of_cell? _ _ hbx)).trans hbx))
  have HF : Hid (l.filter (fun p => !decide (p.1 = nm) && !ns.contains p.1) = fWithout l ns) := rfl
  go_enter Tryz.func132, Tryz.ntmps132
  go_wp2_with fail
  refine hon.mono ?_
  rintro e w1 ⟨v, rfl, ho, hb⟩
  rw [HF.out] at ho
  go_wp2
  go_ret
  exact ⟨_, rfl, ho.base hb0.size, Below.chain hb0 hb⟩
end Go.Proofs.YtcbjhfnlhpallaaGreatDoor
/-
  DERIVED: THE SHELF's CONTRACTS AT THIS DUMP, IN PLAIN WORDS (tools/lay-plain.mjs out of 'TrydShelfTwo.lean', which tools/lay-shelf.mjs wrote): THE SAME DECLARATIONS UNDER THE SAME NAMES: 'import', 'namespace', 'open', 'def', 'theorem' AND NOTHING ELSE: no command of the shelf's: FOR A HAND-IN. Each laying: the table of numbers ('.._ren') and one theorem, a field a fact of the dump's own or the kernel's comparison; each contract: ONE APPLICATION.
-/
namespace Go.Proofs
open Go.Shelf
def Tryz.lays156_ren : Go.Shelf.Ren := ⟨fun | 156 => 106 | 165 => 134 | 166 => 84 | 169 => 86 | 240 => 116 | 241 => 168 | 276 => 142 | 277 => 185 | n => n, fun | 31 => 48 | 9 => 9 | 3 => 3 | 4 => 4 | 0 => 0 | 20 => 20 | 72 => 130 | 76 => 121 | 70 => 128 | 37 => 60 | 75 => 120 | 127 => 153 | 164 => 176 | 5 => 5 | 80 => 132 | n => n, fun | n => n⟩
theorem Tryz.lays156 : Go.Proofs.Lays.n156 Tryz.prog Tryz.lays156_ren := {
  mixed := by kernel_rfl
  f156 := Tryz.func106.trans (congrArg some (by kernel_rfl))
  f165 := Tryz.func134.trans (congrArg some (by kernel_rfl))
  f166 := Tryz.func84.trans (congrArg some (by kernel_rfl))
  f169 := Tryz.func86.trans (congrArg some (by kernel_rfl))
  f240 := Tryz.func116.trans (congrArg some (by kernel_rfl))
  f241 := Tryz.func168.trans (congrArg some (by kernel_rfl))
  f276 := Tryz.func142.trans (congrArg some (by kernel_rfl))
  f277 := Tryz.func185.trans (congrArg some (by kernel_rfl))
  t0 := Tryz.underlying0
  a0 := Tryz.isAgg0
  z0 := Tryz.sizeOf0
  v0 := Tryz.zeroValue0
  t3 := Tryz.underlying3
  a3 := Tryz.isAgg3
  z3 := Tryz.sizeOf3
  v3 := Tryz.zeroValue3
  t4 := Tryz.underlying4
  a4 := Tryz.isAgg4
  z4 := Tryz.sizeOf4
  v4 := Tryz.zeroValue4
  t9 := Tryz.underlying9
  a9 := Tryz.isAgg9
  z9 := Tryz.sizeOf9
  v9 := Tryz.zeroValue9
  t20 := Tryz.underlying20
  a20 := Tryz.isAgg20
  z20 := Tryz.sizeOf20
  v20 := Tryz.zeroValue20
  t31 := Tryz.underlying48
  a31 := Tryz.isAgg48
  z31 := Tryz.sizeOf48
  v31 := Tryz.zeroValue48
  t37 := Tryz.underlying60
  a37 := Tryz.isAgg60
  z37 := Tryz.sizeOf60
  v37 := Tryz.zeroValue60
  t70 := Tryz.underlying128
  a70 := Tryz.isAgg128
  z70 := Tryz.sizeOf128
  v70 := Tryz.zeroValue128
  t72 := Tryz.underlying130
  a72 := Tryz.isAgg130
  z72 := Tryz.sizeOf130
  v72 := Tryz.zeroValue130
  t75 := Tryz.underlying120
  a75 := Tryz.isAgg120
  z75 := Tryz.sizeOf120
  v75 := Tryz.zeroValue120
  t76 := Tryz.underlying121
  a76 := Tryz.isAgg121
  z76 := Tryz.sizeOf121
  v76 := Tryz.zeroValue121
  t127 := Tryz.underlying153
  a127 := Tryz.isAgg153
  z127 := Tryz.sizeOf153
  v127 := Tryz.zeroValue153
  t164 := Tryz.underlying176
  a164 := Tryz.isAgg176
  z164 := Tryz.sizeOf176
  v164 := Tryz.zeroValue176 }
theorem Tryz.Builder_Extra_156 : Builder.Extra Tryz.prog Tryz.lays156_ren := {
  sizeBuilder := by kernel_rfl
  liesBuilder := by kernel_rfl
  t5 := Tryz.underlying5
  a5 := Tryz.isAgg5
  z5 := Tryz.sizeOf5
  v5 := Tryz.zeroValue5
  infoByte := by kernel_rfl
  cellsByte := by kernel_rfl
  sizeByte := by kernel_rfl
  neB5 := by decide }
open Go.RowKit in
/-- No element: the empty string; the world is as it was. (Whatever the slice's address and capacity: a nil slice too.) (LAID: no walk: one application.) -/
theorem Tryz.strings_Join_none (a : Option Addr) (c : Nat) (sep : ByteArray) (w : World) :
    Calls Tryz.prog 106 #[.slice a 0 c, .string sep] w fun e w' => e = .returned (.string ⟨#[]⟩) ∧ w' = w := Any.strings_Join_none Tryz.lays156 Tryz.Builder_Extra_156 a c sep w
open Go.RowKit in
/-- strings.Join: "Join concatenates the elements of its first argument to create a single string. The separator string sep is placed between elements in the resulting string.": HOWEVER MANY ELEMENTS. Below the heap's end the world is as it was. (LAID: no walk: one application.) -/
theorem Tryz.strings_Join (bk o c : Nat) (xs : List ByteArray) (sep : ByteArray) (w : World) (hcells : ∀ (j : Nat) x, xs[j]? = some x → w.cell? ⟨bk, o + j, none⟩ = some (.string x)) (hbk : bk < w.heap.size) (hN : xs.length ≤ 140737488355328) (hcap : xs.length ≤ c) (hlen : (Lib.join (xs.map (·.data.toList)) sep.data.toList).length ≤ 140737488355328) :
    Calls Tryz.prog 106 #[.slice (some ⟨bk, o, none⟩) xs.length c, .string sep] w fun e w' => e = .returned (.string ⟨(Lib.join (xs.map (·.data.toList)) sep.data.toList).toArray⟩) ∧ Below w.heap.size w w' := Any.strings_Join Tryz.lays156 Tryz.Builder_Extra_156 bk o c xs sep w hcells hbk hN hcap hlen
def Tryz.lays155_ren : Go.Shelf.Ren := ⟨fun | 155 => 133 | 154 => 167 | 138 => 94 | 165 => 134 | 143 => 95 | 166 => 84 | 197 => 125 | 169 => 86 | 195 => 124 | 218 => 126 | 240 => 116 | 241 => 168 | 219 => 127 | 260 => 150 | 276 => 142 | 277 => 185 | 217 => 151 | 225 => 152 | 224 => 153 | 267 => 154 | 266 => 176 | 314 => 177 | n => n, fun | 9 => 9 | 3 => 3 | 4 => 4 | 72 => 130 | 0 => 0 | 76 => 121 | 105 => 159 | 21 => 21 | 5 => 5 | 70 => 128 | 20 => 20 | 37 => 60 | 75 => 120 | 127 => 153 | 164 => 176 | 46 => 165 | 119 => 199 | 139 => 202 | 138 => 201 | 146 => 203 | 51 => 50 | 80 => 132 | n => n, fun | 1 => 1 | 3 => 4 | 4 => 5 | n => n⟩
theorem Tryz.lays155 : Go.Proofs.Lays.n155 Tryz.prog Tryz.lays155_ren := {
  mixed := by kernel_rfl
  f138 := Tryz.func94.trans (congrArg some (by kernel_rfl))
  f143 := Tryz.func95.trans (congrArg some (by kernel_rfl))
  f154 := Tryz.func167.trans (congrArg some (by kernel_rfl))
  f155 := Tryz.func133.trans (congrArg some (by kernel_rfl))
  f165 := Tryz.func134.trans (congrArg some (by kernel_rfl))
  f166 := Tryz.func84.trans (congrArg some (by kernel_rfl))
  f169 := Tryz.func86.trans (congrArg some (by kernel_rfl))
  f195 := Tryz.func124.trans (congrArg some (by kernel_rfl))
  f197 := Tryz.func125.trans (congrArg some (by kernel_rfl))
  f217 := Tryz.func151.trans (congrArg some (by kernel_rfl))
  f218 := Tryz.func126.trans (congrArg some (by kernel_rfl))
  f219 := Tryz.func127.trans (congrArg some (by kernel_rfl))
  f224 := Tryz.func153.trans (congrArg some (by kernel_rfl))
  f225 := Tryz.func152.trans (congrArg some (by kernel_rfl))
  f240 := Tryz.func116.trans (congrArg some (by kernel_rfl))
  f241 := Tryz.func168.trans (congrArg some (by kernel_rfl))
  f260 := Tryz.func150.trans (congrArg some (by kernel_rfl))
  f266 := Tryz.func176.trans (congrArg some (by kernel_rfl))
  f267 := Tryz.func154.trans (congrArg some (by kernel_rfl))
  f276 := Tryz.func142.trans (congrArg some (by kernel_rfl))
  f277 := Tryz.func185.trans (congrArg some (by kernel_rfl))
  f314 := Tryz.func177.trans (congrArg some (by kernel_rfl))
  t0 := Tryz.underlying0
  a0 := Tryz.isAgg0
  z0 := Tryz.sizeOf0
  v0 := Tryz.zeroValue0
  t3 := Tryz.underlying3
  a3 := Tryz.isAgg3
  z3 := Tryz.sizeOf3
  v3 := Tryz.zeroValue3
  t4 := Tryz.underlying4
  a4 := Tryz.isAgg4
  z4 := Tryz.sizeOf4
  v4 := Tryz.zeroValue4
  t5 := Tryz.underlying5
  a5 := Tryz.isAgg5
  z5 := Tryz.sizeOf5
  v5 := Tryz.zeroValue5
  t9 := Tryz.underlying9
  a9 := Tryz.isAgg9
  z9 := Tryz.sizeOf9
  v9 := Tryz.zeroValue9
  t20 := Tryz.underlying20
  a20 := Tryz.isAgg20
  z20 := Tryz.sizeOf20
  v20 := Tryz.zeroValue20
  t21 := Tryz.underlying21
  a21 := Tryz.isAgg21
  z21 := Tryz.sizeOf21
  v21 := Tryz.zeroValue21
  t37 := Tryz.underlying60
  a37 := Tryz.isAgg60
  z37 := Tryz.sizeOf60
  v37 := Tryz.zeroValue60
  t46 := Tryz.underlying165
  a46 := Tryz.isAgg165
  z46 := Tryz.sizeOf165
  v46 := Tryz.zeroValue165
  t51 := Tryz.underlying50
  a51 := Tryz.isAgg50
  z51 := Tryz.sizeOf50
  v51 := Tryz.zeroValue50
  t70 := Tryz.underlying128
  a70 := Tryz.isAgg128
  z70 := Tryz.sizeOf128
  v70 := Tryz.zeroValue128
  t72 := Tryz.underlying130
  a72 := Tryz.isAgg130
  z72 := Tryz.sizeOf130
  v72 := Tryz.zeroValue130
  t75 := Tryz.underlying120
  a75 := Tryz.isAgg120
  z75 := Tryz.sizeOf120
  v75 := Tryz.zeroValue120
  t76 := Tryz.underlying121
  a76 := Tryz.isAgg121
  z76 := Tryz.sizeOf121
  v76 := Tryz.zeroValue121
  t105 := Tryz.underlying159
  a105 := Tryz.isAgg159
  z105 := Tryz.sizeOf159
  v105 := Tryz.zeroValue159
  t119 := Tryz.underlying199
  a119 := Tryz.isAgg199
  z119 := Tryz.sizeOf199
  t127 := Tryz.underlying153
  a127 := Tryz.isAgg153
  z127 := Tryz.sizeOf153
  v127 := Tryz.zeroValue153
  t138 := Tryz.underlying201
  a138 := Tryz.isAgg201
  z138 := Tryz.sizeOf201
  v138 := Tryz.zeroValue201
  t139 := Tryz.underlying202
  a139 := Tryz.isAgg202
  z139 := Tryz.sizeOf202
  v139 := Tryz.zeroValue202
  t146 := Tryz.underlying203
  a146 := Tryz.isAgg203
  z146 := Tryz.sizeOf203
  v146 := Tryz.zeroValue203
  t164 := Tryz.underlying176
  a164 := Tryz.isAgg176
  z164 := Tryz.sizeOf176
  v164 := Tryz.zeroValue176
  g1 := by kernel_rfl
  g3 := by kernel_rfl
  g4 := by kernel_rfl }
theorem Tryz.Builder_Extra_155 : Builder.Extra Tryz.prog Tryz.lays155_ren := {
  sizeBuilder := by kernel_rfl
  liesBuilder := by kernel_rfl
  t5 := Tryz.underlying5
  a5 := Tryz.isAgg5
  z5 := Tryz.sizeOf5
  v5 := Tryz.zeroValue5
  infoByte := by kernel_rfl
  cellsByte := by kernel_rfl
  sizeByte := by kernel_rfl
  neB5 := by decide }
open Go.RowKit Go.Lib in
/-- strings.ReplaceAll: "ReplaceAll returns a copy of the string s with all non-overlapping instances of old replaced by new.": AT AN old THAT IS NOT EMPTY: 'Lib.replaceAll s old new'. (LAID: no walk: one application.) -/
theorem Tryz.strings_ReplaceAll (s old new : ByteArray) (m : Int) (w : World) (hs : s.size < 4294967281) (hm : w.cell? ⟨1, 0, none⟩ = some (.int .i64 m)) (h1 : 1 ≤ old.size) (hlen : s.size + Lib.countB s old * new.size ≤ 140737488355328) :
    Calls Tryz.prog 133 #[.string s, .string old, .string new] w fun e w' =>
      e = .returned (.string ⟨(Lib.replaceAll s.data.toList old.data.toList new.data.toList).toArray⟩) ∧ Below w.heap.size w w' := Any.strings_ReplaceAll Tryz.lays155 Tryz.Builder_Extra_155 s old new m w hs hm h1 hlen
end Go.Proofs
/- A set's text: what is printed, what is read of it. -/
namespace Go.Proofs.YtcbjhfnlhpallaaGreatDoor

/-! ### Escaped -/
def escC (c : UInt8) : Str := if c = 92 ∨ c = 34 then [92, c] else [c]
def esc (v : Str) : Str := v.flatMap escC
theorem index_one_cons (x c : UInt8) (s : Str) : Lib.index (x :: s) [c] = if x = c then 0 else if Lib.index s [c] = -1 then -1 else Lib.index s [c] + 1 := by
  rw [Lib.index]
  by_cases h : x = c
  · subst h; simp [List.isPrefixOf]
  · have h' : ¬ c = x := fun e => h e.symm
    simp [List.isPrefixOf, h, h']
theorem replace_one (c : UInt8) (new : Str) (s : Str) : Lib.replaceK [c] new (Lib.count s [c]) s = s.flatMap fun x => if x = c then new else [x] := by
  induction s with
  | nil =>
    have : Lib.count ([] : Str) [c] = 0 := by rw [Lib.count_one]; rfl
    rw [this]; rfl
  | cons x s ih =>
    rw [List.flatMap_cons, ← ih]
    by_cases h : x = c
    · subst h
      rw [Lib.count_one, List.count_cons_self, ← Lib.count_one]
      rw [Lib.replaceK_hit _ _ _ _ 0 (by rw [index_one_cons]; simp)]
      simp
    · rw [if_neg h]
      have hc : Lib.count (x :: s) [c] = Lib.count s [c] := Lib.count_cons_ne x c s h
      rw [hc]
      cases hk : Lib.count s [c] with
      | zero => simp [Lib.replaceK]
      | succ k =>
        obtain ⟨i, hi⟩ := Lib.index_of_count (s := s) (old := [c]) (by omega)
        rw [Lib.replaceK_hit _ _ _ _ i hi]
        have hi' : Lib.index (x :: s) [c] = (i + 1 : Nat) := by
          rw [index_one_cons, if_neg h, if_neg (by omega), hi]; simp
        rw [Lib.replaceK_hit _ _ _ _ (i + 1) hi']
        simp
theorem replaceAll_one (c : UInt8) (new : Str) (s : Str) (hne : [c] ≠ new) : Lib.replaceAll s [c] new = s.flatMap fun x => if x = c then new else [x] := by
  unfold Lib.replaceAll Lib.replace Lib.replaceNum
  rw [if_neg (by simpa using hne), if_pos (by omega)]
  exact replace_one c new s
theorem esc_eq (v : Str) : Lib.replaceAll (Lib.replaceAll v [92] [92, 92]) [34] [92, 34] = esc v := by
  rw [replaceAll_one _ _ _ (by simp), replaceAll_one _ _ _ (by simp)]
  unfold esc
  induction v with
  | nil => rfl
  | cons x v ih =>
    simp only [List.flatMap_cons, List.flatMap_append]
    rw [ih]
    congr 1
    unfold escC
    by_cases h : x = 92
    · subst h; rfl
    · by_cases h2 : x = 34
      · subst h2; rfl
      · simp [h, h2]
theorem esc_len (v : Str) : (esc v).length ≤ 2 * v.length := by
  unfold esc
  induction v with
  | nil => simp
  | cons x v ih =>
    rw [List.flatMap_cons, List.length_append]
    have : (escC x).length ≤ 2 := by unfold escC; split <;> simp
    rw [List.length_cons]; omega

/-! ### Printed -/
def metric (l : List Pr) : Str := if fName (fGet l nm) = true then fGet l nm else []
def others (l : List Pr) : List Pr := if fName (fGet l nm) = true then fWithout l [] else l
def pairT (p : Pr) : Str := p.1 ++ [61, 34] ++ esc p.2 ++ [34]
def inner (l : List Pr) : Str := Lib.join (l.map pairT) [44]
def fPrint (l : List Pr) : Str := if fIs l = true then (if metric l ≠ [] ∧ others l = [] then metric l else metric l ++ [123] ++ inner (others l) ++ [125]) else []

/-! ### Read -/
def rdVal : Str → Str × Str
  | [] => ([], [])
  | c :: r => if c = 34 then ([], r) else if c = 92 then (match r with
      | [] => ([92], [])
      | d :: t => (d :: (rdVal t).1, (rdVal t).2)) else (c :: (rdVal r).1, (rdVal r).2)
def rdPairs : Nat → Str → List Pr
  | 0, _ => []
  | k + 1, s => if (Lib.cut s [61, 34]).2.2 = true then ((Lib.cut s [61, 34]).1, (rdVal (Lib.cut s [61, 34]).2.1).1) :: rdPairs k (Lib.trimPrefix (rdVal (Lib.cut s [61, 34]).2.1).2 [44]) else []
def rdAll (s : Str) : List Pr := (if (Lib.cut s [123]).1 = [] then [] else [(nm, (Lib.cut s [123]).1)]) ++ rdPairs ((Lib.cut s [123]).2.1.length + 1) (Lib.cut s [123]).2.1
def okParse (s : Str) : Bool := decide (makeE (rdAll s) = 0) && decide (fPrint (makeL (rdAll s)) = s)
def parseE (s : Str) : Int := if okParse s = true then 0 else 30
def parseL (s : Str) : List Pr := if okParse s = true then makeL (rdAll s) else []

theorem rdVal_len (s : Str) : (rdVal s).1.length + (rdVal s).2.length ≤ s.length := by
  induction s using rdVal.induct with
  | case1 => simp [rdVal]
  | case2 r => rw [rdVal.eq_def]; simp
  | case3 h1 => rw [rdVal.eq_def]; simp
  | case4 d t h1 ih => rw [rdVal.eq_def]; simp; omega
  | case5 c r h1 h2 ih => rw [rdVal.eq_def]; simp [h1, h2]; omega
theorem rdVal_esc (v t : Str) : rdVal (esc v ++ ([34] ++ t)) = (v, t) := by
  induction v with
  | nil => rw [rdVal.eq_def]; simp [esc]
  | cons c v ih =>
    have e : esc (c :: v) = escC c ++ esc v := by simp [esc]
    rw [e]
    unfold escC
    split
    · rename_i h
      rw [List.append_assoc, List.cons_append, rdVal.eq_def]
      simp only [List.cons_append, List.nil_append]
      simp only [List.cons_append, List.nil_append] at ih
      rw [if_neg (by decide), if_pos trivial, ih]
    · rename_i h
      rw [List.append_assoc, List.cons_append, rdVal.eq_def]
      simp only [List.nil_append]
      rw [if_neg (fun e => h (Or.inr e)), if_neg (fun e => h (Or.inl e)), ih]

/-! ### Cut at the first sign -/
theorem name_no {s : Str} (h : fName s = true) : ∀ c ∈ s, nameCh c = true := by
  unfold fName at h
  simp only [Bool.and_eq_true] at h
  exact fun c hc => List.all_eq_true.1 h.2 c hc
theorem name_len {s : Str} (h : fName s = true) : 1 ≤ s.length ∧ s.length ≤ 20 := by
  unfold fName at h
  simp only [Bool.and_eq_true, decide_eq_true_iff] at h
  exact h.1.1
theorem name_ne {s : Str} (h : fName s = true) : s ≠ [] := fun e => by have := name_len h; rw [e] at this; simp at this
theorem ch_ne {c d : UInt8} (h : nameCh c = true) (hd : nameCh d = false) : c ≠ d := fun e => by rw [e, hd] at h; cases h
theorem cut_head {s t : Str} {c : UInt8} {r : Str} (hs : ∀ x ∈ s, x ≠ c) : Lib.cut (s ++ (c :: r ++ t)) (c :: r) = (s, t, true) := by
  have hi : Lib.index (s ++ (c :: r ++ t)) (c :: r) = s.length := by
    refine Lib.index_first (by simp) (by simp [Lib.occAt]) fun j hj => ?_
    unfold Lib.occAt
    have := hs s[j] (List.getElem_mem hj)
    have h' : (c == s[j]) = false := beq_eq_false_iff_ne.2 fun e => this e.symm
    rw [List.drop_append_of_le_length (by omega), List.drop_eq_getElem_cons hj, List.cons_append, List.isPrefixOf, h', Bool.false_and]
  unfold Lib.cut
  rw [hi, if_pos (by omega)]
  simp
theorem cut_none {s : Str} {c : UInt8} {r : Str} (hs : ∀ x ∈ s, x ≠ c) : Lib.cut s (c :: r) = (s, [], false) := by
  have hi : Lib.index s (c :: r) = -1 := by
    refine Lib.index_none fun j hj => ?_
    unfold Lib.occAt
    by_cases h : j < s.length
    · rw [List.drop_eq_getElem_cons h]
      have := hs s[j] (List.getElem_mem h)
      have h' : ¬ c = s[j] := fun e => this e.symm
      simp [List.isPrefixOf, h']
    · rw [List.drop_eq_nil_of_le (by omega)]; rfl
  unfold Lib.cut
  rw [hi, if_neg (by omega)]

/-! ### What is printed is read -/
theorem inner_one (p : Pr) : inner [p] = pairT p := by simp [inner, Lib.join_one]
theorem inner_cons (p q : Pr) (l : List Pr) : inner (p :: q :: l) = pairT p ++ ([44] ++ inner (q :: l)) := by
  unfold inner
  simp only [List.map_cons]
  rw [Lib.join_cons, Lib.join_cons]
  simp [Lib.joinTail]
theorem rdPairs_inner (l : List Pr) (hl : ∀ p ∈ l, fName p.1 = true) : ∀ k, l.length < k → rdPairs k (inner l ++ [125]) = l := by
  induction l with
  | nil =>
    intro k hk
    cases k with
    | zero => omega
    | succ k =>
      have e : inner [] ++ [125] = [125] := by simp [inner, Lib.join_nil]
      rw [e, rdPairs, cut_none (by simp), if_neg (by simp)]
  | cons p l ih =>
    intro k hk
    cases k with
    | zero => omega
    | succ k =>
      have hn : ∀ x ∈ p.1, x ≠ 61 := fun x hx => ch_ne (name_no (hl p (List.mem_cons_self)) x hx) (by decide)
      have ih' := ih (fun q hq => hl q (List.mem_cons_of_mem _ hq)) k (by simpa using hk)
      cases l with
      | nil =>
        rw [inner_one]
        have e : pairT p ++ [125] = p.1 ++ (61 :: [34] ++ (esc p.2 ++ ([34] ++ [125]))) := by simp [pairT]
        rw [e, rdPairs, cut_head hn, rdVal_esc]
        have e2 : Lib.trimPrefix ([125] : Str) [44] = [125] := by decide
        simp only [if_true, e2]
        have e3 : inner [] ++ [125] = [125] := by simp [inner, Lib.join_nil]
        rw [e3] at ih'
        rw [ih']
      | cons q l =>
        rw [inner_cons]
        have e : pairT p ++ ([44] ++ inner (q :: l)) ++ [125] = p.1 ++ (61 :: [34] ++ (esc p.2 ++ ([34] ++ ([44] ++ (inner (q :: l) ++ [125]))))) := by simp [pairT]
        rw [e, rdPairs, cut_head hn, rdVal_esc]
        have e2 : Lib.trimPrefix ([44] ++ (inner (q :: l) ++ [125])) [44] = inner (q :: l) ++ [125] := by
          simp [Lib.trimPrefix, Lib.hasPrefix]
        simp only [if_true, e2]
        rw [ih']
theorem get_mem {l : List Pr} {n : Str} (h : fGet l n ≠ []) : (n, fGet l n) ∈ l := by
  unfold fGet at *
  cases hf : l.find? fun p => decide (p.1 = n) with
  | none => rw [hf] at h; exact absurd rfl h
  | some p =>
    have h1 := List.mem_of_find?_eq_some hf
    have h2 := List.find?_some hf
    simp at h2
    have : p = (n, p.2) := by rw [← h2]
    rw [this] at h1
    exact h1
theorem without_perm {l : List Pr} (hr : (l.map (·.1)).Nodup) (n v : Str) (hm : (n, v) ∈ l) : ((n, v) :: l.filter fun p => !decide (p.1 = n)).Perm l := by
  induction l with
  | nil => cases hm
  | cons p l ih =>
    rw [List.map_cons, List.nodup_cons] at hr
    rcases List.mem_cons.1 hm with e | hm
    · subst e
      rw [List.filter_cons_of_neg (by simp), List.filter_eq_self.2 fun q hq => ?_]
      have : q.1 ≠ n := fun e => hr.1 (by
        rw [show ((n, v) : Pr).1 = q.1 from e.symm]
        exact List.mem_map_of_mem (f := fun q : Pr => q.1) hq)
      simpa using this
    · have hne : p.1 ≠ n := fun e => hr.1 (e ▸ List.mem_map_of_mem (f := fun q : Pr => q.1) hm)
      rw [List.filter_cons_of_pos (by simpa using hne)]
      exact (List.Perm.swap _ _ _).trans (List.Perm.cons p (ih hr.2 hm))
theorem without_none (l : List Pr) : fWithout l [] = l.filter fun p => !decide (p.1 = nm) := by
  unfold fWithout
  congr 1
  funext p
  simp
theorem inner_len (l : List Pr) : l.length ≤ (inner l).length := by
  induction l with
  | nil => simp
  | cons p l ih =>
    cases l with
    | nil => rw [inner_one]; simp [pairT]; omega
    | cons q l => rw [inner_cons]; simp [pairT] at *; omega
theorem rdAll_print {l : List Pr} (h : fIs l = true) : (rdAll (fPrint l)).Perm l := by
  have h' := (is_iff l).1 h
  unfold fPrint
  rw [if_pos h]
  unfold metric others
  by_cases hn : fName (fGet l nm) = true
  · rw [if_pos hn, if_pos hn]
    have hm := get_mem (name_ne hn)
    have hno : ∀ x ∈ fGet l nm, x ≠ 123 := fun x hx => ch_ne (name_no hn x hx) (by decide)
    have hp := without_perm (rises_nodup h'.2.2) nm _ hm
    rw [← without_none] at hp
    have hok : ∀ p ∈ fWithout l [], fName p.1 = true := fun p hp => (h'.2.1 p (List.mem_filter.1 hp).1).1
    by_cases he : fWithout l [] = []
    · rw [if_pos ⟨name_ne hn, he⟩]
      rw [he] at hp
      unfold rdAll
      rw [cut_none hno, if_neg (name_ne hn)]
      have e : rdPairs (([] : Str).length + 1) [] = [] := by decide
      simp only [e]
      exact hp
    · rw [if_neg (fun h => he h.2)]
      have e : fGet l nm ++ [123] ++ inner (fWithout l []) ++ [125] = fGet l nm ++ (123 :: [] ++ (inner (fWithout l []) ++ [125])) := by simp
      unfold rdAll
      rw [e, cut_head hno]
      simp only
      rw [if_neg (name_ne hn), rdPairs_inner _ hok _ (by have := inner_len (fWithout l []); simp; omega)]
      exact hp
  · rw [if_neg hn, if_neg hn]
    rw [if_neg (fun h => h.1 rfl)]
    have e : ([] : Str) ++ [123] ++ inner l ++ [125] = [] ++ (123 :: [] ++ (inner l ++ [125])) := by simp
    unfold rdAll
    rw [e, cut_head (by simp)]
    simp only
    rw [if_pos trivial, rdPairs_inner _ (fun p hp => (h'.2.1 p hp).1) _ (by have := inner_len l; simp; omega)]
    simp
theorem full_is {l : List Pr} (h : fIs l = true) : full l = l := by
  unfold full
  rw [List.filter_eq_self]
  intro p hp
  have := (((is_iff l).1 h).2.1 p hp).2
  unfold fVal at this
  simp at this
  simp
  intro e
  rw [e] at this
  simp at this
theorem make_perm {l m : List Pr} (hp : m.Perm l) (h : fIs l = true) : makeE m = 0 ∧ makeL m = l := by
  have h' := (is_iff l).1 h
  have hn : (m.map (·.1)).Nodup := (hp.map (·.1)).nodup_iff.2 (rises_nodup h'.2.2)
  have ht : twice m = false := by unfold twice; simpa using hn
  have hf : (full m).Perm l := by
    have := hp.filter (fun p : Pr => !p.2.isEmpty)
    rw [show l.filter (fun p : Pr => !p.2.isEmpty) = l from full_is h] at this
    exact this
  have hs : srt (full m) = l := srt_of hf.symm h'.2.2
  have he : makeE m = 0 := by unfold makeE; rw [ht, hs, if_neg (by simp), if_pos h]
  exact ⟨he, by unfold makeL; rw [if_pos he, hs]⟩
theorem parse_print {l : List Pr} (h : fIs l = true) : okParse (fPrint l) = true ∧ parseE (fPrint l) = 0 ∧ parseL (fPrint l) = l := by
  obtain ⟨h1, h2⟩ := make_perm (rdAll_print h) h
  have ho : okParse (fPrint l) = true := by unfold okParse; rw [h1, h2]; simp
  exact ⟨ho, by unfold parseE; rw [if_pos ho], by unfold parseL; rw [if_pos ho, h2]⟩
theorem print_inj {l m : List Pr} (h : fIs l = true) (k : fIs m = true) (e : fPrint l = fPrint m) : l = m := by
  rw [← (parse_print h).2.2, e, (parse_print k).2.2]
theorem make_is {l : List Pr} (h : makeE l = 0) : fIs (makeL l) = true := by
  unfold makeL
  rw [if_pos h]
  unfold makeE at h
  by_cases h1 : twice l = true
  · rw [if_pos h1] at h; omega
  · rw [if_neg h1] at h
    by_cases h2 : fIs (srt (full l)) = true
    · exact h2
    · rw [if_neg h2] at h; omega
theorem okParse_iff (s : Str) : okParse s = true ↔ ∃ l, fIs l = true ∧ fPrint l = s := by
  constructor
  · intro h
    unfold okParse at h
    simp only [Bool.and_eq_true, decide_eq_true_iff] at h
    exact ⟨_, make_is h.1, h.2⟩
  · rintro ⟨l, h, rfl⟩
    exact (parse_print h).1
end Go.Proofs.YtcbjhfnlhpallaaGreatDoor
/- Regions that draw their order: an operation that yields its value in every world that meets the condition is taken first. -/
namespace Go.Proofs.YtcbjhfnlhpallaaGreatDoor
open Go.RowKit

theorem take_at {P : Program} {ops : Array Oper} {Q : Exit → Act → World → Prop} {md : Region.Mode} {S : World → Prop} (i : Nat) (d : Option Tmp) (v : Value) {oi : Oper} {fuel : Nat} {listed : Array Bool} {a : Act} {w : World} (hi : ops[i]? = some oi) (hd : oi.dst = d)
    (hs : Region.noSelect ops = true) (hf : Region.free md ops listed i = true) (hr : (Region.ready md ops listed).contains i = true)
    (hQ : ∀ c a w, Q (.panic c) (a.put oi.dst v) w → Q (.panic c) a w) (hw : Region.wanted oi (yielded ops a.tmps) = true) (hy : ∀ w, S w → (execOp a.eval oi).run P w = .ok (.value v) w) (hS : S w)
    (h : wpAnyH P md ops Q S fuel (listed.setIfInBounds i true) (a.put d v) w) : wpAnyH P md ops Q S (fuel + 1) listed a w := by
  subst hd
  exact wpAnyH_take hi hs hf hr hQ (Or.inl ⟨hw, hy⟩) hS h
theorem skip_at {P : Program} {ops : Array Oper} {Q : Exit → Act → World → Prop} {md : Region.Mode} {S : World → Prop} (i : Nat) (d : Option Tmp) {oi : Oper} {fuel : Nat} {listed : Array Bool} {a : Act} {w : World} (hi : ops[i]? = some oi) (hd : oi.dst = d)
    (hs : Region.noSelect ops = true) (hf : Region.free md ops listed i = true) (hr : (Region.ready md ops listed).contains i = true)
    (hQ : ∀ c a w, Q (.panic c) (a.put oi.dst undef) w → Q (.panic c) a w) (hw : Region.wanted oi (yielded ops a.tmps) = false) (hS : S w)
    (h : wpAnyH P md ops Q S fuel (listed.setIfInBounds i true) (a.put d undef) w) : wpAnyH P md ops Q S (fuel + 1) listed a w := by
  subst hd
  exact wpAnyH_take hi hs hf hr hQ (Or.inr ⟨hw, rfl⟩) hS h
end Go.Proofs.YtcbjhfnlhpallaaGreatDoor
/- Regions that draw their order: other conditions, cuts; bytealg.MaxLen; texts one behind the other. -/
namespace Go.Proofs.YtcbjhfnlhpallaaGreatDoor
open Go.RowKit

/-- Another condition on the world, which gives the first. -/
theorem other_cond {P : Program} {ops : Array Oper} {Q : Exit → Act → World → Prop} {md : Region.Mode} (S S' : World → Prop) (hS : ∀ w, S' w → S w) : ∀ (fuel : Nat) (listed : Array Bool) (a : Act) (w : World), wpAnyH P md ops Q S' fuel listed a w → wpAnyH P md ops Q S fuel listed a w
  | 0, _, _, _, h => h
  | fuel + 1, _, _, _, h => ⟨h.1, fun i hi => wpOp_mono (fun a' w' h' => ⟨hS _ h'.1, other_cond S S' hS fuel _ a' w' h'.2⟩) (h.2 i hi)⟩
/-- A cut behind a piece of code. -/
theorem region_mid {P : Program} {c : Code} {K : Act → World → Prop} {Q : Exit → Act → World → Prop} {a : Act} {w : World} (R : Act → World → Prop) (h1 : c.wp P (Exit.then R Q) a w) (h2 : ∀ a' w', R a' w' → K a' w') : c.wp P (Exit.then K Q) a w := by
  refine Code.wp_mono ?_ h1
  intro e a' w' h
  cases e <;> first | exact h2 _ _ h | exact h

/-- bytealg.MaxLen is some number. -/
def Mx (w : World) : Prop := ∃ m : Int, w.cell? ⟨1, 0, none⟩ = some (.int .i64 m)
theorem Mx.later {w w' : World} (h : Mx w) (hb : Below w.heap.size w w') : Mx w' := by
  obtain ⟨m, h⟩ := h
  exact ⟨m, (hb.cell (p := ⟨1, 0, none⟩) (World.block_lt_of_cell? _ _ h)).trans h⟩
theorem Mx.drewN {w : World} (h : Mx w) (k : Nat) : Mx (w.drewN k) := h

/-! ### Texts one behind the other -/
theorem add_tx (P : Program) (a b : Str) (h : a.length + b.length ≤ 8388608) (w : World) : (Op.stringOp .add ⟨a.toArray⟩ ⟨b.toArray⟩).run P w = .ok (tx (a ++ b)) w := by
  rw [run_string_add_sum]
  · rw [show ((⟨a.toArray⟩ : ByteArray) ++ ⟨b.toArray⟩) = ⟨(a ++ b).toArray⟩ by
      apply ByteArray.ext
      simp]
  · rw [ba_size, ba_size]; omega

end Go.Proofs.YtcbjhfnlhpallaaGreatDoor
/- Slices of texts that grow. -/
namespace Go.Proofs.YtcbjhfnlhpallaaGreatDoor
open Go.RowKit

/-! ### Slices of texts that grow -/
def OwnS (w : World) (base : Nat) (v : Value) (l : List Str) : Prop := w.ownsRow base 9 1 v l.length (l.map tx)
theorem info9 : (Tryz.prog.info? 9).map (fun i => (i.zero, i.size, i.bytes)) = some (some (tx []), 1, 16) := by kernel_rfl
theorem info_parts9 : ∃ i, Tryz.prog.info? 9 = some i ∧ i.zero = some (tx []) ∧ i.size = 1 ∧ i.bytes = 16 := by
  have h := info9
  cases hi : Tryz.prog.info? 9 with
  | none => rw [hi] at h; cases h
  | some i =>
    rw [hi] at h
    simp only [Option.map_some, Option.some.injEq, Prod.mk.injEq] at h
    exact ⟨i, rfl, h.1, h.2.1, h.2.2⟩
theorem OwnS.later {w w' : World} {base : Nat} {v : Value} {l : List Str} (h : OwnS w base v l) (hb : Below w.heap.size w w') : OwnS w' base v l := by
  refine ⟨h.1, ?_⟩
  rcases h.2 with h0 | ⟨g, cap, cur, hv, hg0, hg, hn, hm, hs, ht⟩
  · exact Or.inl h0
  · have hlt : g < w.heap.size := by
      by_cases hlt : g < w.heap.size
      · exact hlt
      · rw [Array.getElem?_eq_none (by omega)] at hg; cases hg
    exact Or.inr ⟨g, cap, cur, hv, hg0, (hb.block g hlt).trans hg, hn, hm, hs, ht⟩
theorem OwnS.snoc {w : World} {base : Nat} {v : Value} {l : List Str} {p : Str} (h : w.ownsRow base 9 1 v (l.length + 1) (l.map tx ++ [tx p])) : OwnS w base v (l ++ [p]) := by
  unfold OwnS
  rw [List.map_append, List.length_append]
  exact h
theorem OwnS.slice {w : World} {base : Nat} {v : Value} {l : List Str} (h : OwnS w base v l) : ∃ ao cap, v = .slice ao l.length cap ∧ Ss w ao l.length l ∧ l.length ≤ cap ∧ (0 < l.length → ∃ g, ao = some ⟨g, 0, none⟩ ∧ g < w.heap.size) := by
  rcases h.2 with ⟨rfl, h0⟩ | ⟨g, cap, cur, rfl, hb, hg, hn, _, hs, ht⟩
  · have : l = [] := List.length_eq_zero_iff.1 h0
    subst this
    exact ⟨none, 0, rfl, Ss.nil _ _, Nat.le_refl _, fun h => by simp at h⟩
  · have hlt : g < w.heap.size := by
      by_cases hlt : g < w.heap.size
      · exact hlt
      · rw [Array.getElem?_eq_none (by omega)] at hg; cases hg
    refine ⟨_, cap, rfl, ⟨rfl, fun _ => ⟨g, 0, rfl, fun j hj => ?_⟩⟩, hn, fun _ => ⟨g, rfl, hlt⟩⟩
    rw [cell_of_row _ _ _ _ _ _ hg, Nat.zero_add]
    have e : (cur.toList.take (l.length * 1))[j]? = (l.map tx)[j]? := by rw [ht]
    rw [List.getElem?_take_of_lt (by omega)] at e
    rw [← Array.getElem?_toList, e]
    simp [List.getD, List.getElem?_eq_getElem hj]
theorem step_append {ops : Array Oper} {o : Oper} {a : Act} {W : World} {K : Act → World → Prop} {Q : Exit → Act → World → Prop} {E : Prop} (s x : Operand) (d : Option Tmp) (t : TypeId)
    (ho : o.op = .call { callee := .builtin .append, args := #[s, x], argTypes := #[t, t] }) (hd : o.dst = d) (hw : Region.wanted o (yielded ops a.tmps) = true)
    (base : Nat) (e : TypeId) (i : TypeInfo) (z : Value) (size bytes : Nat) (ht : Tryz.prog.underlying t = some (.slice e)) (hi : Tryz.prog.info? e = some i) (hz : i.zero = some z)
    (hsize : i.size = size) (hby : i.bytes = bytes) (hzs : z.cells.size = size) (hsz : 0 < size)
    (v : Value) (n : Nat) (xs : List Value) (hs : a.eval s = v) (hown : W.ownsRow base e size v n xs)
    (ad : Addr) (m c : Nat) (news : List Value) (hx : a.eval x = .slice (some ad) m c) (hl : news.length = m * size) (hnews : ∀ j u, news[j]? = some u → W.cell? (ad.add j) = some u) (h1 : ∀ u ∈ news, u.oneCell' = true)
    (h63 : n + m ≤ maxLen) (hbytes : (n + m) * bytes ≤ 140737488355328) (hbase : base ≤ W.heap.size)
    (h : ∀ v' w', w'.ownsRow base e size v' (n + m) (xs ++ news) → W.grownBy w' v.ownBlock → K (a.put d v') w') :
    if Region.wanted o (yielded ops a.tmps) = true then Oper.wp Tryz.prog o a W K Q else E := by
  subst hd
  rw [if_pos hw]
  exact wp_append_own W s x t ho base e i z size bytes ht hi hz hsize hby hzs hsz v n xs hs hown ad m c news hx hl hnews h1 h63 hbytes hbase fun v' w' h2 h3 _ => h v' w' h2 h3
end Go.Proofs.YtcbjhfnlhpallaaGreatDoor
/- Pairs just made: rows of one and of two. -/
namespace Go.Proofs.YtcbjhfnlhpallaaGreatDoor
open Go.RowKit

theorem Ps.two (w : World) (p q : Pr) : Ps (w.alloc (.cells #[tx p.1, tx p.2, tx q.1, tx q.2] 58)) (some ⟨w.heap.size, 0, none⟩) 2 [p, q] := by
  refine ⟨rfl, fun _ => ⟨_, 0, rfl, fun j hj => ?_⟩⟩
  have : j = 0 ∨ j = 1 := by omega
  rcases this with rfl | rfl <;> constructor <;> simp [go_sem]
theorem Ps.one (w : World) (p : Pr) : Ps (w.alloc (.cells #[tx p.1, tx p.2] 58)) (some ⟨w.heap.size, 0, none⟩) 1 [p] := by
  refine ⟨rfl, fun _ => ⟨_, 0, rfl, fun j hj => ?_⟩⟩
  obtain rfl : j = 0 := by omega
  constructor <;> simp [go_sem]
theorem Fit.small {l : List Pr} (h : ∀ p ∈ l, p.1.length ≤ 1000 ∧ p.2.length ≤ 1000) : Fit l := fun p hp => by have := h p hp; omega
theorem Own.fitN {w : World} {b : Nat} {v : Value} {l : List Pr} (h : Own w b v l) : ∃ ao cap, v = .slice ao l.length cap ∧ Ps w ao l.length l := by
  obtain ⟨ao, cap, e, hp, _⟩ := h.slice
  exact ⟨ao, cap, e, hp⟩
end Go.Proofs.YtcbjhfnlhpallaaGreatDoor
/- escaped, split, Print: each for every argument. -/
namespace Go.Proofs.YtcbjhfnlhpallaaGreatDoor
open Go.RowKit

theorem count_le (s : Str) (c : UInt8) : Lib.count s [c] ≤ s.length := by
  rw [Lib.count_one]
  exact List.count_le_length
theorem replace_any (s : Str) (c : UInt8) (new : Str) (w : World) (hs : s.length ≤ 1000000) (hn : new.length = 2) (hne : [c] ≠ new) (hm : Mx w) :
    Calls Tryz.prog 133 #[tx s, .string ⟨#[c]⟩, tx new] w fun e w' => e = .returned (tx (s.flatMap fun x => if x = c then new else [x])) ∧ Below w.heap.size w w' := by
  obtain ⟨m, hm⟩ := hm
  have hb : Lib.countB (⟨s.toArray⟩ : ByteArray) ⟨#[c]⟩ ≤ s.length := count_le s c
  have e2 : (⟨new.toArray⟩ : ByteArray).size = 2 := by rw [ba_size, hn]
  refine (Tryz.strings_ReplaceAll ⟨s.toArray⟩ ⟨#[c]⟩ ⟨new.toArray⟩ m w (by rw [ba_size]; omega) hm (Nat.le_refl 1) (by rw [ba_size, e2]; omega)).mono ?_
  rintro e w' ⟨rfl, hb⟩
  refine ⟨?_, hb⟩
  rw [← replaceAll_one c new s hne]
theorem esc_two (v : Str) : (v.flatMap fun x => if x = 92 then [92, 92] else [x]).flatMap (fun x => if x = 34 then [92, 34] else [x]) = esc v := by
  rw [← esc_eq, replaceAll_one _ _ _ (by simp), replaceAll_one _ _ _ (by simp)]
theorem esc_one_len (v : Str) : (v.flatMap fun x => if x = 92 then [92, 92] else [x]).length ≤ 2 * v.length := by
  induction v with
  | nil => simp
  | cons x v ih =>
    rw [List.flatMap_cons, List.length_append, List.length_cons]
    have : (if x = 92 then ([92, 92] : Str) else [x]).length ≤ 2 := by split <;> simp
    omega
theorem escaped_any (v : Str) (w : World) (hv : v.length ≤ 1000) (hm : Mx w) : Calls Tryz.prog 105 #[tx v] w fun e w' => e = .returned (tx (esc v)) ∧ Below w.heap.size w w' := by
  have h1 := replace_any v 92 [92, 92] w (by omega) rfl (by simp) hm
  have hl := esc_one_len v
  have h2 := fun W (hW : Below w.heap.size w W) => replace_any (v.flatMap fun x => if x = 92 then [92, 92] else [x]) 34 [92, 34] W (by omega) rfl (by simp) (hm.later hW)
  rw [esc_two] at h2
  clear hl
  generalize (v.flatMap fun x => if x = 92 then [92, 92] else [x]) = u at *
  go_enter Tryz.func105, Tryz.ntmps105
  go_wp2_with fail
  refine h1.mono ?_
  rintro e w1 ⟨rfl, hb1⟩
  go_wp2_with fail
  refine (h2 _ hb1).mono ?_
  rintro e w2 ⟨rfl, hb2⟩
  go_wp2
  go_ret
  exact ⟨rfl, Below.chain hb1 hb2⟩
theorem get_len {l : List Pr} (hf : Fit l) (n : Str) : (fGet l n).length ≤ 9223372036854775807 := by
  by_cases h : fGet l n = []
  · rw [h]; simp
  · exact (hf _ (get_mem h)).2
set_option maxHeartbeats 1000000 in
theorem split_any (xa : Option Addr) (n c : Nat) (l : List Pr) (w : World) (hn : n ≤ 1000000) (hf : Fit l) (hx : Ps w xa n l) :
    Calls Tryz.prog 104 #[.slice xa n c] w fun e w' => ∃ ao cap, e = .returned (.tuple #[tx (metric l), .slice ao (others l).length cap]) ∧ Ps w' ao (others l).length (others l) ∧ Below w.heap.size w w' := by
  have hg := get_any xa n c l nm w (by omega) hx
  have hnm := fun W => name_any (fGet l nm) W (get_len hf nm)
  unfold metric others
  generalize fGet l nm = g at *
  cases hN : fName g with
  | true =>
    rw [hN] at hnm
    rw [if_pos rfl, if_pos rfl]
    go_enter Tryz.func104, Tryz.ntmps104
    go_wp2_with fail
    refine hg.mono ?_
    rintro e w1 ⟨rfl, hb1⟩
    go_wp2_with (go_at_call 66; refine (hnm _).mono ?_; rintro e w' ⟨rfl, rfl⟩)
    refine (without_any xa n c l none 0 0 [] w1 hn (by omega) (hx.later hb1) (Ss.nil _ _)).mono ?_
    rintro e w2 ⟨v, rfl, ho, hb2⟩
    obtain ⟨ao, cap, rfl, hps, _⟩ := ho.slice
    go_wp2
    go_ret2
    exact ⟨ao, cap, rfl, hps, Below.chain hb1 hb2⟩
  | false =>
    rw [hN] at hnm
    rw [if_neg (by simp), if_neg (by simp)]
    have HL : Hid (l.length = n) := hx.1
    go_enter Tryz.func104, Tryz.ntmps104
    go_wp2_with fail
    refine hg.mono ?_
    rintro e w1 ⟨rfl, hb1⟩
    go_wp2_with (go_at_call 66; refine (hnm _).mono ?_; rintro e w' ⟨rfl, rfl⟩)
    go_ret2
    exact ⟨xa, c, by rw [HL.out]; rfl, by rw [HL.out]; exact hx.later hb1, hb1⟩

theorem join_any (v : Value) (base : Nat) (l : List Str) (w : World) (ho : OwnS w base v l) (hl : (Lib.join l [44]).length ≤ 1000000) (hN : l.length ≤ 1000000) :
    Calls Tryz.prog 106 #[v, .string ⟨#[44]⟩] w fun e w' => e = .returned (tx (Lib.join l [44])) ∧ Below w.heap.size w w' := by
  obtain ⟨ao, cap, rfl, hs, hc, hb⟩ := ho.slice
  by_cases h0 : l.length = 0
  · obtain rfl : l = [] := List.length_eq_zero_iff.1 h0
    refine (Tryz.strings_Join_none ao cap ⟨#[44]⟩ w).mono ?_
    rintro e w' ⟨rfl, rfl⟩
    exact ⟨rfl, Below.refl _ _⟩
  · have hpos : 0 < l.length := Nat.pos_of_ne_zero h0
    obtain ⟨g, rfl, hlt⟩ := hb hpos
    obtain ⟨_, h4⟩ := hs
    obtain ⟨b, off, e, hcell⟩ := h4 hpos
    cases e
    have em : (l.map fun s => (⟨s.toArray⟩ : ByteArray)).map (·.data.toList) = l := by
      rw [List.map_map]
      conv => rhs; rw [← List.map_id l]
      apply List.map_congr_left
      intro s _
      simp
    have h := Tryz.strings_Join g 0 cap (l.map fun s => (⟨s.toArray⟩ : ByteArray)) ⟨#[44]⟩ w (fun j x hx => by
      rw [List.getElem?_map] at hx
      cases hj : l[j]? with
      | none => rw [hj] at hx; cases hx
      | some s =>
        rw [hj] at hx
        cases hx
        have hlt : j < l.length := by
          by_cases h : j < l.length
          · exact h
          · rw [List.getElem?_eq_none (by omega)] at hj; cases hj
        rw [hcell j hlt, List.getD, hj]
        rfl) hlt (by simp; omega) (by simpa using hc) (by rw [em]; show (Lib.join l [44]).length ≤ _; omega)
    rw [em] at h
    simp only [List.length_map] at h
    exact h.mono fun e w' ⟨he, hb⟩ => ⟨he, hb⟩
theorem ba_append (x y : List UInt8) : (⟨x.toArray⟩ : ByteArray) ++ ⟨y.toArray⟩ = ⟨(x ++ y).toArray⟩ := by
  apply ByteArray.ext
  simp
theorem exec_add {P : Program} {a : Act} {o : Oper} {x y : Operand} {t u : TypeId} (ho : o.op = .binOp .add t x y u) (s r : Str) (hx : a.eval x = tx s) (hy : a.eval y = tx r) (hl : s.length + r.length ≤ 8388608) (q : Str) (hq : q = s ++ r) (w : World) : (execOp a.eval o).run P w = .ok (.value (tx q)) w := by
  subst hq
  unfold execOp
  simp only [ho, hx, hy]
  simp only [binOp_string_add, Sem.run_bind, Sem.run_pure]
  go_simp
  rw [if_neg (by omega), ba_append]
theorem Box.both {w : World} {b : Nat} {p : Pr} (h : Box w b p) : w.cell? ⟨b, 0, none⟩ = some (tx p.1) ∧ w.cell? ⟨b, 1, none⟩ = some (tx p.2) := ⟨h.c0, h.c1⟩
theorem Box.grown {w w' : World} {b : Nat} {p : Pr} {row : Option Nat} (h : Box w b p) (hg : w.grownBy w' row) (hne : some b ≠ row) : Box w' b p := by
  have e := hg.block b h.lt hne
  exact ⟨(World.cell?_of_block (a := ⟨b, 0, none⟩) e).trans h.c0, (World.cell?_of_block (a := ⟨b, 1, none⟩) e).trans h.c1, (World.frozen?_of_block (a := ⟨b, 0, none⟩) e).trans h.f0, (World.frozen?_of_block (a := ⟨b, 1, none⟩) e).trans h.f1⟩
theorem one_cell {w : World} {b : Nat} {v : Value} (h : w.cell? ⟨b, 0, none⟩ = some v) : ∀ j u, [v][j]? = some u → w.cell? ((⟨b, 0, none⟩ : Addr).add j) = some u := by
  intro j u hu
  rw [Addr.add_lit, Nat.zero_add]
  match j, hu with
  | 0, hu => rw [h]; exact hu
  | j + 1, hu => simp at hu
theorem inner_le (l : List Pr) (h : ∀ p ∈ l, p.1.length ≤ 20 ∧ p.2.length ≤ 30) : (inner l).length ≤ l.length * 84 := by
  induction l with
  | nil => simp [inner, Lib.join_nil]
  | cons p l ih =>
    have hp := h p List.mem_cons_self
    have he := esc_len p.2
    have ih' := ih fun q hq => h q (List.mem_cons_of_mem _ hq)
    have ht : (pairT p).length ≤ 83 := by simp [pairT]; omega
    cases l with
    | nil => rw [inner_one]; simp; omega
    | cons q l => rw [inner_cons, List.length_append, List.length_append]; simp at *; omega
theorem map_snoc {l : List Pr} {j : Nat} (hj : j < l.length) : (l.take (j + 1)).map pairT = (l.take j).map pairT ++ [(l.getD j ([], [])).1 ++ [61, 34] ++ esc (l.getD j ([], [])).2 ++ [34]] := by
  rw [List.take_succ_eq_append_getElem hj, List.map_append, getD_at hj]
  rfl
theorem others_is {l : List Pr} (h : fIs l = true) : (others l).length ≤ 8 ∧ ∀ p ∈ others l, p.1.length ≤ 20 ∧ p.2.length ≤ 30 := by
  have h' := (is_iff l).1 h
  have hs : ∀ p ∈ others l, p ∈ l := by
    unfold others
    split
    · exact fun p hp => (List.mem_filter.1 hp).1
    · exact fun p hp => hp
  have hl : (others l).length ≤ l.length := by
    unfold others
    split
    · exact List.length_filter_le _ _
    · exact Nat.le_refl _
  refine ⟨by omega, fun p hp => ?_⟩
  have := h'.2.1 p (hs p hp)
  exact ⟨(name_len this.1).2, (val_len this.2).2⟩
theorem metric_len (l : List Pr) : (metric l).length ≤ 20 := by
  unfold metric
  split
  · rename_i h; exact (name_len h).2
  · simp

set_option maxRecDepth 20000 in
set_option maxHeartbeats 4000000 in
theorem print_any (xa : Option Addr) (n c : Nat) (l : List Pr) (w : World) (hn : n ≤ 1000000) (hf : Fit l) (hm : Mx w) (hx : Ps w xa n l) :
    Calls Tryz.prog 65 #[.slice xa n c] w fun e w' => e = .returned (tx (fPrint l)) ∧ Below w.heap.size w w' := by
  have his := is_any xa n c l w (by omega) hf hx
  cases hI : fIs l with
  | false =>
    rw [hI] at his
    have HR : Hid (fPrint l = []) := by show _ = _; unfold fPrint; rw [hI]; rfl
    clear hI
    go_enter Tryz.func65, Tryz.ntmps65
    go_wp2_with fail
    refine his.mono ?_
    rintro e w1 ⟨rfl, hb1⟩
    go_wp2
    go_ret
    exact ⟨by rw [HR.out]; rfl, hb1⟩
  | true =>
    rw [hI] at his
    obtain ⟨i0, hi, hz0, hz1, hz2⟩ := info_parts9
    have hot := others_is hI
    have hml := metric_len l
    have HR : Hid (fPrint l = if metric l ≠ [] ∧ others l = [] then metric l else metric l ++ [123] ++ inner (others l) ++ [125]) := by show _ = _; unfold fPrint; rw [if_pos hI]
    clear hI
    have hsp := fun W (hW : Below w.heap.size w W) => split_any xa n c l W hn hf (hx.later hW)
    generalize fPrint l = R at *
    generalize metric l = ms at *
    generalize others l = os at *
    obtain ⟨ho8, hov⟩ := hot
    by_cases hme : ms ≠ [] ∧ os = []
    · obtain ⟨h1, rfl⟩ := hme
      rw [if_pos ⟨h1, rfl⟩] at HR
      have h1' : (ms == []) = false := by simpa using h1
      clear h1
      go_enter Tryz.func65, Tryz.ntmps65
      go_wp2_with fail
      refine his.mono ?_
      rintro e w1 ⟨rfl, hb1⟩
      go_wp2_with fail
      refine (hsp w1 hb1).mono ?_
      rintro e w2 ⟨ao, cap, rfl, hps, hb2⟩
      go_wp2
      go_ret
      exact ⟨by rw [HR.out]; rfl, Below.chain hb1 hb2⟩
    · rw [if_neg hme] at HR
      have hcase : (ms == []) = true ∨ ((ms == []) = false ∧ ((os.length : Int) == 0) = false) := by
        by_cases h : ms = []
        · exact Or.inl (by simpa using h)
        · refine Or.inr ⟨by simpa using h, ?_⟩
          rw [beq_eq_false_iff_ne]
          intro e
          exact hme ⟨h, List.length_eq_zero_iff.1 (by omega)⟩
      clear hme
      have hil := inner_le os hov
      rcases hcase with h1 | ⟨h1, h2⟩
      all_goals
        go_enter Tryz.func65, Tryz.ntmps65
        go_wp2_with fail
        refine his.mono ?_
        rintro e w1 ⟨rfl, hb1⟩
        go_wp2_with fail
        refine (hsp w1 hb1).mono ?_
        rintro e w2 ⟨ao, cap, rfl, hps, hb2⟩
        have hb12 : Below w.heap.size w w2 := Below.chain hb1 hb2
        obtain ⟨_, hcell⟩ := hps
        go_wp2_with fail
        go_loopw [27, 5] (fun i u wr => ∃ (j : Nat) (v : Value), j ≤ os.length ∧ i = .int .i64 j ∧ v = u ∧ OwnS wr w2.heap.size v ((os.take j).map pairT) ∧ Below w2.heap.size w2 wr) (fun i _ _ => os.length - (intOf i).toNat)
        case atStart => exact ⟨0, _, by omega, rfl, rfl, World.ownsRow_made w2 #[] 0 (Nat.le_refl _) (Nat.zero_le _) (by simp), bal (Below.refl _ _) _⟩
        case round =>
          obtain ⟨j, v, hj, rfl, rfl, ho, hb⟩ := hrel
          by_cases hlt : j < os.length
          · obtain ⟨b1, o1, rfl, h1⟩ := hcell (by omega)
            obtain ⟨c10, c11⟩ := h1 j hlt
            have k0 := (hb.cell (p := ⟨b1, o1 + j * 2, none⟩) (World.block_lt_of_cell? _ _ c10)).trans c10
            have k1 := (hb.cell (p := ⟨b1, o1 + j * 2 + 1, none⟩) (World.block_lt_of_cell? _ _ c11)).trans c11
            have HSN : Hid _ := map_snoc hlt
            have hpl := hov (os.getD j ([], [])) (by rw [getD_at hlt]; exact List.getElem_mem hlt)
            have hle : ((os.take j).map pairT).length ≤ 8 := by simp; omega
            clear h1 hcell c10 c11
            generalize os.getD j ([], []) = p at *
            obtain ⟨p1, p2⟩ := p
            dsimp only at *
            generalize (os.take j).map pairT = ts at *
            obtain ⟨hp1, hp2⟩ := hpl
            have hel := esc_len p2
            obtain ⟨t1, ht1⟩ : ∃ t, t = p1 ++ [61, 34] := ⟨_, rfl⟩
            obtain ⟨t2, ht2⟩ : ∃ t, t = t1 ++ esc p2 := ⟨_, rfl⟩
            obtain ⟨t3, ht3⟩ : ∃ t, t = t2 ++ [34] := ⟨_, rfl⟩
            have hl1 : t1.length ≤ 22 := by rw [ht1]; simp; omega
            have hl2 : t2.length ≤ 82 := by rw [ht2]; simp; omega
            have H1 : Hid _ := ht1
            have H2 : Hid _ := ht2
            have H3 : Hid _ := ht3
            rw [← ht1, ← ht2, ← ht3] at HSN
            clear ht1 ht2 ht3
            have hvb : ∀ _ : Unit, some wr.heap.size ≠ v.ownBlock := fun _ e => by have := (World.ownsRow.lt ho _ e.symm).2; omega
            have hbx := Box.new wr (p1, p2)
            have hbq := bal hb (.cells #[tx p1, tx p2] 58)
            have hoq := ho.later (bal (Below.refl _ _) (.cells #[tx p1, tx p2] 58))
            have hmq : Mx (wr.alloc (.cells #[tx p1, tx p2] 58)) := (hm.later hb12).later hbq
            have hes := fun W => escaped_any p2 W (by omega)
            go_wp2_with fail
            generalize wr.alloc (.cells #[tx p1, tx p2] 58) = wq at *
            have B2 : Below wq.heap.size wq wq.drew := (Below.refl _ _).drew
            have S2 := (hbx.later B2).both
            refine wp_region_noPanic ?_
            refine wp_region_held_drew (S := fun W => W.cell? ⟨wr.heap.size, 0, none⟩ = some (tx p1) ∧ W.cell? ⟨wr.heap.size, 1, none⟩ = some (tx p2)) (by kernel_rfl) ?_ (fun _ => ?_)
            · exact S2
            generalize wq.drew = wd at *
            refine take_at 0 (some 31) (v) rfl rfl (by kernel_rfl) (by kernel_rfl) (by kernel_rfl) (fun _ _ _ h => h) (by rfl) (fun W hSw => by go_simp) S2 ?_
            simp only [Act.put, List.setIfInBounds_toArray, List.set_cons_zero, List.set_cons_succ]
            refine take_at 1 (some 32) (.pointer (some ⟨wr.heap.size, 0, none⟩)) rfl rfl (by kernel_rfl) (by kernel_rfl) (by kernel_rfl) (fun _ _ _ h => h) (by rfl) (fun W hSw => by go_simp) S2 ?_
            simp only [Act.put, List.setIfInBounds_toArray, List.set_cons_zero, List.set_cons_succ]
            refine take_at 2 (some 33) (tx p1) rfl rfl (by kernel_rfl) (by kernel_rfl) (by kernel_rfl) (fun _ _ _ h => h) (by rfl) (fun W hSw => by obtain ⟨s0, s1⟩ := hSw; go_simp) S2 ?_
            simp only [Act.put, List.setIfInBounds_toArray, List.set_cons_zero, List.set_cons_succ]
            refine take_at 3 (some 34) (tx t1) rfl rfl (by kernel_rfl) (by kernel_rfl) (by kernel_rfl) (fun _ _ _ h => h) (by rfl) (fun W hSw => exec_add rfl p1 [61, 34] rfl rfl (by simp; omega) t1 H1.out W) S2 ?_
            simp only [Act.put, List.setIfInBounds_toArray, List.set_cons_zero, List.set_cons_succ]
            refine take_at 4 (some 35) (.pointer (some ⟨wr.heap.size, 1, none⟩)) rfl rfl (by kernel_rfl) (by kernel_rfl) (by kernel_rfl) (fun _ _ _ h => h) (by rfl) (fun W hSw => by go_simp) S2 ?_
            simp only [Act.put, List.setIfInBounds_toArray, List.set_cons_zero, List.set_cons_succ]
            refine take_at 5 (some 36) (tx p2) rfl rfl (by kernel_rfl) (by kernel_rfl) (by kernel_rfl) (fun _ _ _ h => h) (by rfl) (fun W hSw => by obtain ⟨s0, s1⟩ := hSw; go_simp) S2 ?_
            simp only [Act.put, List.setIfInBounds_toArray, List.set_cons_zero, List.set_cons_succ]
            refine wpAnyH_ready (rs := [6]) (by kernel_rfl) (by simp) ?_
            refine AllReadyH.cons rfl (fun K hK => ?_) AllReadyH.nil
            go_simp
            refine (hes _ (hmq.later B2)).mono ?_
            rintro e w3 ⟨rfl, hb3⟩
            have B3 := Below.chain B2 hb3
            have S3 := (hbx.later B3).both
            refine hK.out _ _ ?_ (fun _ => ?_)
            · exact S3
            clear hK K
            refine take_at 7 (some 38) (tx t2) rfl rfl (by kernel_rfl) (by kernel_rfl) (by kernel_rfl) (fun _ _ _ h => h) (by rfl) (fun W hSw => exec_add rfl t1 (esc p2) rfl rfl (by omega) t2 H2.out W) S3 ?_
            simp only [Act.put, List.setIfInBounds_toArray, List.set_cons_zero, List.set_cons_succ]
            refine take_at 8 (some 39) (tx t3) rfl rfl (by kernel_rfl) (by kernel_rfl) (by kernel_rfl) (fun _ _ _ h => h) (by rfl) (fun W hSw => exec_add rfl t2 [34] rfl rfl (by simp; omega) t3 H3.out W) S3 ?_
            simp only [Act.put, List.setIfInBounds_toArray, List.set_cons_zero, List.set_cons_succ]
            refine wpAnyH_ready (rs := [9]) (by kernel_rfl) (by simp) ?_
            refine AllReadyH.cons rfl (fun K hK => ?_) AllReadyH.nil
            go_simp
            have B4 := bal B3 (.cells #[tx t3] 9)
            have S4 := (hbx.later B4).both
            have hnw : (w3.alloc (.cells #[tx t3] 9)).cell? ⟨w3.heap.size, 0, none⟩ = some (tx t3) := World.cell?_alloc_new w3 _ _ 0
            refine hK.out _ _ ?_ (fun _ => ?_)
            · exact S4
            clear hK K
            refine wpAnyH_ready (rs := [10]) (by kernel_rfl) (by simp) ?_
            refine AllReadyH.cons rfl (fun K hK => ?_) AllReadyH.nil
            refine step_append _ _ (some 41) 48 rfl rfl (by rfl) w2.heap.size 9 i0 (tx []) 1 16 Tryz.underlying48 hi hz0 hz1 hz2 rfl (by decide) v _ _ rfl (hoq.later B4) ⟨w3.heap.size, 0, none⟩ 1 1 [tx t3] rfl rfl (one_cell hnw) (fun u hu => by cases hu with | head => rfl | tail _ h => cases h) (by unfold maxLen; omega) (by omega) (Nat.le_trans hbq.size B4.size) ?_
            intro v5 w5 ho5 hg5
            have B5 : Below w2.heap.size w2 w5 := (hbq.trans (B4.mono hbq.size)).grown hg5 (Nat.le_trans hbq.size B4.size) (fun k hk => (World.ownsRow.lt (hoq.later B4) k hk).1)
            have S5 := ((hbx.later B4).grown hg5 (hvb ())).both
            refine hK.out _ _ ?_ (fun _ => ?_)
            · exact S5
            clear hK K
            refine take_at 11 (some 5) (v5) rfl rfl (by kernel_rfl) (by kernel_rfl) (by kernel_rfl) (fun _ _ _ h => h) (by rfl) (fun W hSw => by go_simp) S5 ?_
            simp only [Act.put, List.setIfInBounds_toArray, List.set_cons_zero, List.set_cons_succ]
            refine wpAnyH_done (by kernel_rfl) ?_ _
            refine NoPanic.normal ?_
            go_wp2
            go_roundw
            case rel =>
              refine ⟨j + 1, _, by omega, by go_num, rfl, ?_, B5⟩
              rw [HSN.out]
              exact OwnS.snoc ho5
            case measure => simp [intOf]; omega
          · have HT : Hid ((os.take j).map pairT = os.map pairT) := by show _ = _; rw [List.take_of_length_le (by omega)]
            rw [HT.out] at ho
            have hjo := join_any v w2.heap.size (os.map pairT) wr ho (by show (inner os).length ≤ _; omega) (by simp; omega)
            have HI : Hid (Lib.join (os.map pairT) [44] = inner os) := rfl
            rw [HI.out] at hjo
            have hap := ba_append
            have h8 : os.length * 84 ≤ 672 := by omega
            have hil' : (inner os).length ≤ 672 := by omega
            clear hil HI HT h8
            generalize inner os = t at *
            go_wp2_with fail
            refine hjo.mono ?_
            rintro e w4 ⟨rfl, hb4⟩
            go_wp2
            go_ret
            exact ⟨by rw [HR.out]; simp, (hb12.trans (hb.mono hb12.size)).trans (hb4.mono (hb12.trans (hb.mono hb12.size)).size)⟩
end Go.Proofs.YtcbjhfnlhpallaaGreatDoor
/- readValue: for every text. -/
namespace Go.Proofs.YtcbjhfnlhpallaaGreatDoor
open Go.RowKit

theorem info5 : (Tryz.prog.info? 5).map (fun i => (i.zero, i.size, i.bytes)) = some (some (.int .u8 0), 1, 1) := by kernel_rfl
theorem info_parts5 : ∃ i, Tryz.prog.info? 5 = some i ∧ i.zero = some (.int .u8 0) ∧ i.size = 1 ∧ i.bytes = 1 := by
  have h := info5
  cases hi : Tryz.prog.info? 5 with
  | none => rw [hi] at h; cases h
  | some i =>
    rw [hi] at h
    simp only [Option.map_some, Option.some.injEq, Prod.mk.injEq] at h
    exact ⟨i, rfl, h.1, h.2.1, h.2.2⟩
abbrev by8 (c : UInt8) : Value := .int .u8 (c.toNat : Int)
def OwnB (w : World) (base : Nat) (v : Value) (l : Str) : Prop := w.ownsRow base 5 1 v l.length (l.map by8)
theorem OwnB.later {w w' : World} {base : Nat} {v : Value} {l : Str} (h : OwnB w base v l) (hb : Below w.heap.size w w') : OwnB w' base v l := by
  refine ⟨h.1, ?_⟩
  rcases h.2 with h0 | ⟨g, cap, cur, hv, hg0, hg, hn, hm, hs, ht⟩
  · exact Or.inl h0
  · have hlt : g < w.heap.size := by
      by_cases hlt : g < w.heap.size
      · exact hlt
      · rw [Array.getElem?_eq_none (by omega)] at hg; cases hg
    exact Or.inr ⟨g, cap, cur, hv, hg0, (hb.block g hlt).trans hg, hn, hm, hs, ht⟩
theorem OwnB.snoc {w : World} {base : Nat} {v : Value} {l : Str} {c : UInt8} (h : w.ownsRow base 5 1 v (l.length + 1) (l.map by8 ++ [by8 c])) : OwnB w base v (l ++ [c]) := by
  unfold OwnB
  rw [List.map_append, List.length_append]
  exact h
theorem OwnB.string {w : World} {base : Nat} {v : Value} {l : Str} (h : OwnB w base v l) : ∀ W, Below w.heap.size w W → (convert 60 9 v).run Tryz.prog W = .ok (tx l) W := by
  intro W hW
  rcases (h.later hW).2 with ⟨rfl, h0⟩ | ⟨g, cap, cur, rfl, hb, hg, hn, _, hs, ht⟩
  · obtain rfl : l = [] := List.length_eq_zero_iff.1 h0
    exact run_convert_bytes_nil W 60 5 Tryz.underlying60 Tryz.underlying5 0 0 9 Tryz.underlying9
  · refine run_convert_bytes_back W 60 9 5 ⟨g, 0, none⟩ cap l Tryz.underlying60 Tryz.underlying5 Tryz.underlying9 (fun j hj => ?_)
    rw [Addr.add_lit, cell_of_row _ _ _ _ _ _ hg, Nat.zero_add]
    have e : (cur.toList.take (l.length * 1))[j]? = (l.map by8)[j]? := by rw [ht]
    rw [List.getElem?_take_of_lt (by omega)] at e
    rw [← Array.getElem?_toList, e]
    simp [List.getElem?_eq_getElem hj]
theorem ex_tail (s : Str) (k : Nat) : (⟨s.toArray⟩ : ByteArray).extract k s.length = ⟨(s.drop k).toArray⟩ := by
  rw [Lib.extract_eq]
  congr 2
  exact List.take_of_length_le (by simp)
theorem index_at (s : Str) (k : Nat) (h : k < (⟨s.toArray⟩ : ByteArray).size) (W : World) : (Instr.index 9 (tx s) (.int .i64 (k : Int))).run Tryz.prog W = .ok (by8 ((⟨s.toArray⟩ : ByteArray)[k]'h)) W := by
  have hk : k < s.length := by rw [ba_size] at h; exact h
  have u9 := Tryz.underlying9
  go_simp
theorem rd_quote {s : Str} {j : Nat} (hj : j < s.length) (h : s[j] = 34) : rdVal (s.drop j) = ([], s.drop (j + 1)) := by
  rw [List.drop_eq_getElem_cons hj, h, rdVal.eq_def]
  simp
theorem rd_plain {s : Str} {j : Nat} (hj : j < s.length) (h : s[j] ≠ 34) (h2 : s[j] ≠ 92) : rdVal (s.drop j) = (s[j] :: (rdVal (s.drop (j + 1))).1, (rdVal (s.drop (j + 1))).2) := by
  rw [List.drop_eq_getElem_cons hj, rdVal.eq_def]
  simp [h, h2]
theorem rd_back {s : Str} {j : Nat} (hj : j < s.length) (h : s[j] = 92) (h1 : j + 1 < s.length) : rdVal (s.drop j) = (s[j + 1] :: (rdVal (s.drop (j + 2))).1, (rdVal (s.drop (j + 2))).2) := by
  rw [List.drop_eq_getElem_cons hj, h, List.drop_eq_getElem_cons h1, rdVal.eq_def]
  simp
theorem rd_last {s : Str} {j : Nat} (hj : j < s.length) (h : s[j] = 92) (h1 : ¬ j + 1 < s.length) : rdVal (s.drop j) = (s[j] :: (rdVal (s.drop (j + 1))).1, (rdVal (s.drop (j + 1))).2) := by
  have e : s.drop (j + 1) = [] := List.drop_eq_nil_of_le (by omega)
  rw [List.drop_eq_getElem_cons hj, h, e, rdVal.eq_def]
  simp [rdVal]
theorem byte_eq {c : UInt8} {k : Nat} (hk : k < 256) (h : (c.toNat : Int) = k) : c = UInt8.ofNat k := by
  apply UInt8.toNat_inj.1
  rw [UInt8.toNat_ofNat_of_lt' (by simpa using hk)]
  omega
theorem byte_ne {c : UInt8} {k : Nat} (hk : k < 256) (h : ¬ (c.toNat : Int) = k) : c ≠ UInt8.ofNat k := by
  intro e
  rw [e, UInt8.toNat_ofNat_of_lt' (by simpa using hk)] at h
  exact h rfl

set_option maxHeartbeats 2000000 in
theorem readValue_any (s : Str) (w : World) (hs : s.length ≤ 1000000) : Calls Tryz.prog 102 #[tx s] w fun e w' => e = .returned (.tuple #[tx (rdVal s).1, tx (rdVal s).2]) ∧ Below w.heap.size w w' := by
  obtain ⟨i0, hi, hz0, hz1, hz2⟩ := info_parts5
  have hex := ex_tail s
  go_enter Tryz.func102, Tryz.ntmps102
  go_wp2
  go_loopw [5, 4] (fun i u wr => ∃ (j : Nat) (v : Value) (l : Str), j ≤ s.length ∧ l.length ≤ j ∧ i = .int .i64 j ∧ v = u ∧ OwnB wr w.heap.size v l ∧ Hid (rdVal s = (l ++ (rdVal (s.drop j)).1, (rdVal (s.drop j)).2)) ∧ Below w.heap.size w wr) (fun i _ _ => s.length - (intOf i).toNat)
  case atStart => exact ⟨0, _, [], by omega, by simp, rfl, rfl, World.ownsRow_made w #[] 0 (Nat.le_refl _) (Nat.zero_le _) (by simp), by show _ = _; simp, bal (Below.refl _ _) _⟩
  case round =>
    obtain ⟨j, v, l, hj, hlj, rfl, rfl, ho, HR, hb⟩ := hrel
    have hcv := ho.string
    by_cases hlt : j < s.length
    · have hbk := ba_lt hlt
      by_cases hq : (((⟨s.toArray⟩ : ByteArray)[j]'hbk).toNat : Int) = 34
      · have HQ : Hid (rdVal s = (l, s.drop (j + 1))) := by
          show _ = _
          rw [HR.out, rd_quote hlt (byte_eq (k := 34) (by decide) hq)]
          simp
        clear HR
        have hq' : ((((⟨s.toArray⟩ : ByteArray)[j]'hbk).toNat : Int) == 34) = true := beq_iff_eq.2 hq
        clear hq
        have hcd : ∀ k, (convert 60 9 v).run Tryz.prog (wr.drewN k) = .ok (tx l) (wr.drewN k) := fun k => hcv _ (below_drewN (Below.refl _ _) k)
        clear hcv
        go_wp2
        go_quiet (fail)
        go_wp2
        go_ret2
        exact ⟨by rw [HQ.out]; rfl, below_drewN hb _⟩
      · have hq1 := byte_ne (k := 34) (by decide) hq
        have hq' : ((((⟨s.toArray⟩ : ByteArray)[j]'hbk).toNat : Int) == 34) = false := beq_eq_false_iff_ne.2 hq
        by_cases hk : (((⟨s.toArray⟩ : ByteArray)[j]'hbk).toNat : Int) = 92
        · have hk' : ((((⟨s.toArray⟩ : ByteArray)[j]'hbk).toNat : Int) == 92) = true := beq_iff_eq.2 hk
          by_cases h1 : j + 1 < s.length
          · have hbk1 := ba_lt h1
            have h1' : (j : Int) + 1 < s.length := by omega
            have hix : ∀ W, (Instr.index 9 (tx s) (.int .i64 ((j : Int) + 1))).run Tryz.prog W = .ok (by8 ((⟨s.toArray⟩ : ByteArray)[j + 1]'hbk1)) W := fun W => index_at s (j + 1) hbk1 W
            have HN : Hid (rdVal s = ((l ++ [(⟨s.toArray⟩ : ByteArray)[j + 1]'hbk1]) ++ (rdVal (s.drop (j + 2))).1, (rdVal (s.drop (j + 2))).2)) := by
              show _ = _
              rw [HR.out, rd_back hlt (byte_eq (k := 92) (by decide) hk) h1]
              simp
              rfl
            clear HR hq hq1 hk hcv
            have ho1 := ho.later (bal (Below.refl _ _) (.cells #[by8 ((⟨s.toArray⟩ : ByteArray)[j + 1]'hbk1)] 5))
            have hbo := bal hb (.cells #[by8 ((⟨s.toArray⟩ : ByteArray)[j + 1]'hbk1)] 5)
            go_wp2_with (at_builtin; go_must (refine wpList_append_own _ rfl _ _ 60 rfl w.heap.size 5 i0 (.int .u8 0) 1 1 Tryz.underlying60 hi hz0 hz1 hz2 rfl (by decide) _ _ _ rfl ho1 ⟨wr.heap.size, 0, none⟩ 1 1 [by8 ((⟨s.toArray⟩ : ByteArray)[j + 1]'hbk1)] rfl rfl (one_cell (World.cell?_alloc_new wr _ _ 0)) (fun u hu => by cases hu with | head => rfl | tail _ h => cases h) ?h63 ?hby ?hbs ?_))
            case h63 => unfold maxLen; omega
            case hby => omega
            case hbs => have := hb.size; simp; omega
            intro v' w2 ho4 hg4 _
            go_wp2
            go_roundw
            case rel => exact ⟨j + 2, _, l ++ [(⟨s.toArray⟩ : ByteArray)[j + 1]'hbk1], by omega, by simp; omega, by go_num, rfl, OwnB.snoc ho4, HN, hbo.grown hg4 hbo.size (fun k hk => (World.ownsRow.lt ho1 k hk).1)⟩
            case measure => simp [intOf]; omega
          · have h1' : ¬ (j : Int) + 1 < s.length := by omega
            have HN : Hid (rdVal s = ((l ++ [(⟨s.toArray⟩ : ByteArray)[j]'hbk]) ++ (rdVal (s.drop (j + 1))).1, (rdVal (s.drop (j + 1))).2)) := by
              show _ = _
              rw [HR.out, rd_last hlt (byte_eq (k := 92) (by decide) hk) h1]
              simp
              rfl
            clear HR hq hq1 hk hcv
            have ho1 := ho.later (bal (Below.refl _ _) (.cells #[by8 ((⟨s.toArray⟩ : ByteArray)[j]'hbk)] 5))
            have hbo := bal hb (.cells #[by8 ((⟨s.toArray⟩ : ByteArray)[j]'hbk)] 5)
            go_wp2_with (at_builtin; go_must (refine wpList_append_own _ rfl _ _ 60 rfl w.heap.size 5 i0 (.int .u8 0) 1 1 Tryz.underlying60 hi hz0 hz1 hz2 rfl (by decide) _ _ _ rfl ho1 ⟨wr.heap.size, 0, none⟩ 1 1 [by8 ((⟨s.toArray⟩ : ByteArray)[j]'hbk)] rfl rfl (one_cell (World.cell?_alloc_new wr _ _ 0)) (fun u hu => by cases hu with | head => rfl | tail _ h => cases h) ?h63 ?hby ?hbs ?_))
            case h63 => unfold maxLen; omega
            case hby => omega
            case hbs => have := hb.size; simp; omega
            intro v' w2 ho4 hg4 _
            go_wp2
            go_roundw
            case rel => exact ⟨j + 1, _, l ++ [(⟨s.toArray⟩ : ByteArray)[j]'hbk], by omega, by simp; omega, by go_num, rfl, OwnB.snoc ho4, HN, hbo.grown hg4 hbo.size (fun k hk => (World.ownsRow.lt ho1 k hk).1)⟩
            case measure => simp [intOf]; omega
        · have hk' : ((((⟨s.toArray⟩ : ByteArray)[j]'hbk).toNat : Int) == 92) = false := beq_eq_false_iff_ne.2 hk
          have HN : Hid (rdVal s = ((l ++ [(⟨s.toArray⟩ : ByteArray)[j]'hbk]) ++ (rdVal (s.drop (j + 1))).1, (rdVal (s.drop (j + 1))).2)) := by
              show _ = _
              rw [HR.out, rd_plain hlt hq1 (byte_ne (k := 92) (by decide) hk)]
              simp
              rfl
          clear HR hq hq1 hk hcv
          · skip
            have ho1 := ho.later (bal (Below.refl _ _) (.cells #[by8 ((⟨s.toArray⟩ : ByteArray)[j]'hbk)] 5))
            have hbo := bal hb (.cells #[by8 ((⟨s.toArray⟩ : ByteArray)[j]'hbk)] 5)
            go_wp2_with (at_builtin; go_must (refine wpList_append_own _ rfl _ _ 60 rfl w.heap.size 5 i0 (.int .u8 0) 1 1 Tryz.underlying60 hi hz0 hz1 hz2 rfl (by decide) _ _ _ rfl ho1 ⟨wr.heap.size, 0, none⟩ 1 1 [by8 ((⟨s.toArray⟩ : ByteArray)[j]'hbk)] rfl rfl (one_cell (World.cell?_alloc_new wr _ _ 0)) (fun u hu => by cases hu with | head => rfl | tail _ h => cases h) ?h63 ?hby ?hbs ?_))
            case h63 => unfold maxLen; omega
            case hby => omega
            case hbs => have := hb.size; simp; omega
            intro v' w2 ho4 hg4 _
            go_wp2
            go_roundw
            case rel => exact ⟨j + 1, _, l ++ [(⟨s.toArray⟩ : ByteArray)[j]'hbk], by omega, by simp; omega, by go_num, rfl, OwnB.snoc ho4, HN, hbo.grown hg4 hbo.size (fun k hk => (World.ownsRow.lt ho1 k hk).1)⟩
            case measure => simp [intOf]; omega
    · have HQ : Hid (rdVal s = (l, [])) := by
        show _ = _
        rw [HR.out, List.drop_eq_nil_of_le (by omega)]
        simp [rdVal]
      clear HR
      have hc0 := hcv wr (Below.refl _ _)
      clear hcv
      go_wp2
      go_ret2
      exact ⟨by rw [HQ.out]; rfl, hb⟩
end Go.Proofs.YtcbjhfnlhpallaaGreatDoor
/- read: the pairs of a text; Parse: for every text. -/
namespace Go.Proofs.YtcbjhfnlhpallaaGreatDoor
open Go.RowKit

theorem cut_parts (s : Str) (c : UInt8) (r : Str) : (Lib.cut s (c :: r)).1.length ≤ s.length ∧ (Lib.cut s (c :: r)).2.1.length ≤ s.length ∧ ((Lib.cut s (c :: r)).2.2 = true → (Lib.cut s (c :: r)).1.length + (Lib.cut s (c :: r)).2.1.length + r.length + 1 ≤ s.length) := by
  have hge := Lib.index_ge s (c :: r)
  unfold Lib.cut
  by_cases h : 0 ≤ Lib.index s (c :: r)
  · rw [if_pos h]
    have hc : ∃ i : Nat, Lib.index s (c :: r) = i := ⟨(Lib.index s (c :: r)).toNat, by omega⟩
    obtain ⟨i, hi⟩ := hc
    have hr : i + (c :: r).length ≤ s.length := by
      have := Lib.indexB_cases ⟨s.toArray⟩ ⟨(c :: r).toArray⟩
      have e : Lib.indexB ⟨s.toArray⟩ ⟨(c :: r).toArray⟩ = Lib.index s (c :: r) := rfl
      rw [e, hi] at this
      rcases this with h | ⟨k, hk, hl⟩
      · omega
      · rw [ba_size, ba_size] at hl
        omega
    rw [hi]
    simp at hr ⊢
    omega
  · rw [if_neg h]
    simp
theorem trim_len (s : Str) (p : Str) : (Lib.trimPrefix s p).length ≤ s.length := Lib.trimPrefix_le s p
def nextR (s : Str) : Str := Lib.trimPrefix (rdVal (Lib.cut s [61, 34]).2.1).2 [44]
def nextP (s : Str) : Pr := ((Lib.cut s [61, 34]).1, (rdVal (Lib.cut s [61, 34]).2.1).1)
theorem next_len {s : Str} (h : (Lib.cut s [61, 34]).2.2 = true) : (nextR s).length + 2 ≤ s.length := by
  have h1 := (cut_parts s 61 [34]).2.2 h
  have h2 := rdVal_len (Lib.cut s [61, 34]).2.1
  have h3 := trim_len (rdVal (Lib.cut s [61, 34]).2.1).2 [44]
  unfold nextR
  simp at h1
  omega
theorem nextP_len (s : Str) : (nextP s).1.length ≤ s.length ∧ (nextP s).2.length ≤ s.length := by
  have h1 := cut_parts s 61 [34]
  have h2 := rdVal_len (Lib.cut s [61, 34]).2.1
  unfold nextP
  exact ⟨h1.1, by simp; omega⟩
theorem rdPairs_succ (k : Nat) (s : Str) : rdPairs (k + 1) s = if (Lib.cut s [61, 34]).2.2 = true then nextP s :: rdPairs k (nextR s) else [] := rfl
theorem rdPairs_fuel : ∀ (k : Nat) (s : Str), s.length < k → rdPairs k s = rdPairs (s.length + 1) s := by
  intro k
  induction k using Nat.strongRecOn with
  | ind k ih =>
    intro s hk
    cases k with
    | zero => omega
    | succ k =>
      rw [rdPairs_succ, rdPairs_succ]
      by_cases h : (Lib.cut s [61, 34]).2.2 = true
      · rw [if_pos h, if_pos h]
        have hl := next_len h
        rw [ih k (by omega) _ (by omega)]
        rw [ih s.length (by omega) (nextR s) (by omega)]
      · rw [if_neg h, if_neg h]
def rdP (s : Str) : List Pr := rdPairs (s.length + 1) s
theorem rdP_yes {s : Str} (h : (Lib.cut s [61, 34]).2.2 = true) : rdP s = nextP s :: rdP (nextR s) := by
  unfold rdP
  rw [rdPairs_succ, if_pos h, rdPairs_fuel _ _ (by have := next_len h; omega)]
theorem rdP_no {s : Str} (h : (Lib.cut s [61, 34]).2.2 = false) : rdP s = [] := by
  unfold rdP
  rw [rdPairs_succ, h]
  rfl
theorem rdP_len : ∀ (n : Nat) (s : Str), s.length ≤ n → (∀ p ∈ rdP s, p.1.length ≤ s.length ∧ p.2.length ≤ s.length) ∧ (rdP s).length ≤ s.length := by
  intro n
  induction n using Nat.strongRecOn with
  | ind n ih =>
    intro s hs
    cases h : (Lib.cut s [61, 34]).2.2 with
    | false => rw [rdP_no h]; simp
    | true =>
      have hl := next_len h
      obtain ⟨i1, i2⟩ := ih (nextR s).length (by omega) (nextR s) (Nat.le_refl _)
      rw [rdP_yes h]
      refine ⟨fun p hp => ?_, by simp; omega⟩
      rcases List.mem_cons.1 hp with rfl | hp
      · exact nextP_len s
      · have := i1 p hp; omega
def headP (s : Str) : List Pr := if (Lib.cut s [123]).1 = [] then [] else [(nm, (Lib.cut s [123]).1)]
theorem rdAll_eq (s : Str) : rdAll s = headP s ++ rdP (Lib.cut s [123]).2.1 := rfl
theorem rdAll_len (s : Str) : (∀ p ∈ rdAll s, p.1.length ≤ s.length + 8 ∧ p.2.length ≤ s.length) ∧ (rdAll s).length ≤ s.length + 1 := by
  have h1 := cut_parts s 123 []
  obtain ⟨i1, i2⟩ := rdP_len _ (Lib.cut s [123]).2.1 (Nat.le_refl _)
  rw [rdAll_eq]
  unfold headP
  constructor
  · intro p hp
    rcases List.mem_append.1 hp with hp | hp
    · split at hp
      · cases hp
      · simp at hp
        subst hp
        simp [nm]
        omega
    · have := i1 p hp; omega
  · rw [List.length_append]
    have : (if (Lib.cut s [123]).1 = [] then ([] : List Pr) else [(nm, (Lib.cut s [123]).1)]).length ≤ 1 := by split <;> simp
    omega
theorem cutS_any (s sep : Str) (w : World) (hs : s.length ≤ 1000000) (hm : Mx w) : Calls Tryz.prog 69 #[tx s, tx sep] w fun e w' => e = .returned (.tuple #[tx (Lib.cut s sep).1, tx (Lib.cut s sep).2.1, .bool (Lib.cut s sep).2.2]) ∧ Below w.heap.size w w' := by
  obtain ⟨m, hm⟩ := hm
  refine (Tryz.strings_Cut ⟨s.toArray⟩ ⟨sep.toArray⟩ m w (by rw [ba_size]; omega) hm).mono ?_
  rintro e w' ⟨rfl, k, rfl⟩
  exact ⟨rfl, below_drewN (Below.refl _ _) k⟩
theorem trim_any (s p : Str) (w : World) : Calls Tryz.prog 103 #[tx s, tx p] w fun e w' => e = .returned (tx (Lib.trimPrefix s p)) ∧ w = w' := by
  refine (Tryz.strings_TrimPrefix ⟨s.toArray⟩ ⟨p.toArray⟩ w).mono ?_
  rintro e w' ⟨rfl, rfl⟩
  exact ⟨rfl, rfl⟩
theorem Box.put1 {w : World} {b : Nat} {p : Pr} (h : Box w b p) (v : Str) : Box (w.setCell ⟨b, 1, none⟩ (tx v)) b (p.1, v) := by
  obtain ⟨c0, c1, f0, f1⟩ := h
  constructor
  · rw [World.cell?_setCell_other _ _ _ _ (by intro e; cases e)]; exact c0
  · exact World.cell?_setCell_same' _ _ _ (by rw [c1]; rfl)
  · simpa using f0
  · simpa using f1
def strLen : Value → Nat
  | .string b => b.size
  | _ => 0
theorem strLen_tx (s : Str) : strLen (tx s) = s.length := ba_size s

set_option maxRecDepth 20000 in
set_option maxHeartbeats 4000000 in
theorem read_any (s : Str) (w : World) (hs : s.length ≤ 100000) (hm : Mx w) : Calls Tryz.prog 64 #[tx s] w fun e w' => ∃ v, e = .returned v ∧ Own w' w.heap.size v (rdAll s) ∧ Below w.heap.size w w' := by
  obtain ⟨i0, hi, hz0, hz1, hz2⟩ := info_parts35
  have hc := cutS_any s [123] w (by omega) hm
  have hcl1 := (cut_parts s 123 []).2.1
  have HA : Hid (rdAll s = headP s ++ rdP (Lib.cut s [123]).2.1) := rdAll_eq s
  have HH : Hid (headP s = if (Lib.cut s [123]).1 = [] then [] else [(nm, (Lib.cut s [123]).1)]) := rfl
  generalize rdAll s = R at *
  generalize headP s = hd at *
  generalize Lib.cut s [123] = C at *
  obtain ⟨ms, rest, fd⟩ := C
  dsimp only at *
  by_cases hme : ms = []
  · have hme' : (ms == []) = true := by simpa using hme
    have HD : Hid (hd = []) := by show _ = _; rw [HH.out, if_pos hme]
    clear hme HH
    go_enter Tryz.func64, Tryz.ntmps64
    go_wp2_with fail
    refine hc.mono ?_
    rintro e w1 ⟨rfl, hb1⟩
    go_wp2_with fail
    go_loopw [4, 6] (fun t u wr => ∃ (r : Str) (v : Value) (l : List Pr), r.length ≤ rest.length ∧ l.length + r.length ≤ rest.length + 1 ∧ t = tx r ∧ v = u ∧ Own wr w.heap.size v l ∧ Hid (R = l ++ rdP r) ∧ Below w.heap.size w wr) (fun t _ _ => strLen t)
    case atStart => exact ⟨rest, _, [], by omega, by simp, rfl, rfl, World.ownsRow_made w1 #[] 0 hb1.size (Nat.zero_le _) (by simp), by show _ = _; rw [HA.out, HD.out], bal hb1 _⟩
    case round =>
      obtain ⟨r, v, l, hr, hlr, rfl, rfl, ho, HR, hb⟩ := hrel
      have hc2 := cutS_any r [61, 34] wr (by omega) (hm.later hb)
      have hcp := (cut_parts r 61 [34]).2.1
      cases hf : (Lib.cut r [61, 34]).2.2 with
      | false =>
        have HQ : Hid (R = l) := by show _ = _; rw [HR.out, rdP_no hf, List.append_nil]
        rw [hf] at hc2
        clear HR hf hcp
        generalize (Lib.cut r [61, 34]).1 = a at *
        generalize (Lib.cut r [61, 34]).2.1 = b at *
        go_wp2_with fail
        refine hc2.mono ?_
        rintro e w2 ⟨rfl, hb2⟩
        go_wp2
        go_ret
        exact ⟨_, rfl, by rw [HQ.out]; exact ho.later hb2, hb.trans (hb2.mono hb.size)⟩
      | true =>
        have hnl := next_len hf
        have HQ : Hid (R = (l ++ [nextP r]) ++ rdP (nextR r)) := by show _ = _; rw [HR.out, rdP_yes hf]; simp
        have HP : Hid (nextP r = ((Lib.cut r [61, 34]).1, (rdVal (Lib.cut r [61, 34]).2.1).1)) := rfl
        have HN : Hid (nextR r = Lib.trimPrefix (rdVal (Lib.cut r [61, 34]).2.1).2 [44]) := rfl
        rw [hf] at hc2
        clear HR hf
        rw [HN.out] at hnl
        rw [HP.out, HN.out] at HQ
        clear HP HN
        generalize (Lib.cut r [61, 34]).1 = a at *
        generalize (Lib.cut r [61, 34]).2.1 = b at *
        have hrv := fun W => readValue_any b W (by omega)
        generalize rdVal b = D at *
        obtain ⟨x, y⟩ := D
        dsimp only at *
        have htr := trim_any y [44]
        generalize Lib.trimPrefix y [44] = z at *
        go_wp2_with fail
        refine hc2.mono ?_
        rintro e w2 ⟨rfl, hb2⟩
        have hb02 : Below w.heap.size w w2 := hb.trans (hb2.mono hb.size)
        have hbx := Box.new w2 (a, [])
        have hbn := bal (Below.refl _ w2) (.cells #[tx a, tx []] 58)
        go_wp2_with fail
        refine (hrv _).mono ?_
        rintro e w4 ⟨rfl, hb4⟩
        have hbx4 := hbx.later hb4
        have hbx5 := hbx4.put1 x
        have B25 := (Below.chain hbn hb4).setCell (p := ⟨w2.heap.size, 1, none⟩) (Nat.le_refl _) (tx x)
        have ho5 := (ho.later hb2).later B25
        have hb05 := hb02.trans (B25.mono hb02.size)
        obtain ⟨c0, c1, f0, f1⟩ := hbx4
        obtain ⟨d0, d1, _, _⟩ := hbx5
        have ho6 := ho5.later (bal (Below.refl _ _) (.cells #[tx a, tx x] 58))
        have hbo := bal hb05 (.cells #[tx a, tx x] 58)
        have hbx6 := Box.new (w4.setCell ⟨w2.heap.size, 1, none⟩ (tx x)) (a, x)
        go_wp2_with (first | (at_builtin; go_must (refine wpList_append_own _ rfl _ _ 30 rfl w.heap.size 58 i0 (.agg #[tx [], tx []]) 2 32 Tryz.underlying30 hi hz0 hz1 hz2 zero35 (by decide) _ _ _ rfl ho6 ⟨(w4.setCell ⟨w2.heap.size, 1, none⟩ (tx x)).heap.size, 0, none⟩ 1 1 (cellsP [(a, x)]) ?hx rfl hbx6.cells (cellsP_one _) ?h63 ?hby hbo.size ?_)))
        case hx => simp [Act.eval]
        case h63 => unfold maxLen; omega
        case hby => omega
        intro v' w7 ho7 hg7 _
        go_wp2_with (go_at_call 103; refine (htr _).mono ?_; rintro e w' ⟨rfl, rfl⟩)
        go_roundw
        case rel => exact ⟨z, _, l ++ [(a, x)], by omega, by simp; omega, rfl, rfl, Own.snoc ho7, HQ, hbo.grown hg7 hbo.size (fun k hk => (World.ownsRow.lt ho6 k hk).1)⟩
        case measure => rw [strLen_tx, strLen_tx]; omega
  · have hme' : (ms == []) = false := by simpa using hme
    have HD : Hid (hd = [(nm, ms)]) := by show _ = _; rw [HH.out, if_neg hme]
    clear hme HH
    go_enter Tryz.func64, Tryz.ntmps64
    go_wp2_with fail
    refine hc.mono ?_
    rintro e w1 ⟨rfl, hb1⟩
    have ho1 : Own (w1.alloc (.cells #[] 58)) w.heap.size (.slice (some ⟨w1.heap.size, 0, none⟩) 0 0) [] := World.ownsRow_made w1 #[] 0 hb1.size (Nat.zero_le _) (by simp)
    have ho2 := ho1.later (bal (Below.refl _ _) (.cells #[tx nm, tx ms] 58))
    have hbo := bal (bal hb1 (.cells #[] 58)) (.cells #[tx nm, tx ms] 58)
    have hbx := Box.new (w1.alloc (.cells #[] 58)) (nm, ms)
    go_wp2_with (at_builtin; go_must (refine wpList_append_own _ rfl _ _ 30 rfl w.heap.size 58 i0 (.agg #[tx [], tx []]) 2 32 Tryz.underlying30 hi hz0 hz1 hz2 zero35 (by decide) _ _ _ rfl ho2 ⟨(w1.alloc (.cells #[] 58)).heap.size, 0, none⟩ 1 1 (cellsP [(nm, ms)]) ?hx rfl hbx.cells (cellsP_one _) ?h63 ?hby hbo.size ?_))
    case hx => simp [Act.eval]
    case h63 => unfold maxLen; simp
    case hby => simp
    intro v1 w2 ho3 hg3 _
    have hb3 := hbo.grown hg3 hbo.size (fun k hk => (World.ownsRow.lt ho2 k hk).1)
    have ho4 : Own w2 w.heap.size v1 ([] ++ [(nm, ms)]) := Own.snoc ho3
    clear ho1 ho2 hbo hbx ho3 hg3 hb1
    go_wp2_with fail
    go_loopw [4, 6] (fun t u wr => ∃ (r : Str) (v : Value) (l : List Pr), r.length ≤ rest.length ∧ l.length + r.length ≤ rest.length + 1 ∧ t = tx r ∧ v = u ∧ Own wr w.heap.size v l ∧ Hid (R = l ++ rdP r) ∧ Below w.heap.size w wr) (fun t _ _ => strLen t)
    case atStart => exact ⟨rest, _, [(nm, ms)], by omega, by simp; omega, rfl, rfl, ho4, by show _ = _; rw [HA.out, HD.out], hb3⟩
    case round =>
      obtain ⟨r, v, l, hr, hlr, rfl, rfl, ho, HR, hb⟩ := hrel
      have hc2 := cutS_any r [61, 34] wr (by omega) (hm.later hb)
      have hcp := (cut_parts r 61 [34]).2.1
      cases hf : (Lib.cut r [61, 34]).2.2 with
      | false =>
        have HQ : Hid (R = l) := by show _ = _; rw [HR.out, rdP_no hf, List.append_nil]
        rw [hf] at hc2
        clear HR hf hcp
        generalize (Lib.cut r [61, 34]).1 = a at *
        generalize (Lib.cut r [61, 34]).2.1 = b at *
        go_wp2_with fail
        refine hc2.mono ?_
        rintro e w2 ⟨rfl, hb2⟩
        go_wp2
        go_ret
        exact ⟨_, rfl, by rw [HQ.out]; exact ho.later hb2, hb.trans (hb2.mono hb.size)⟩
      | true =>
        have hnl := next_len hf
        have HQ : Hid (R = (l ++ [nextP r]) ++ rdP (nextR r)) := by show _ = _; rw [HR.out, rdP_yes hf]; simp
        have HP : Hid (nextP r = ((Lib.cut r [61, 34]).1, (rdVal (Lib.cut r [61, 34]).2.1).1)) := rfl
        have HN : Hid (nextR r = Lib.trimPrefix (rdVal (Lib.cut r [61, 34]).2.1).2 [44]) := rfl
        rw [hf] at hc2
        clear HR hf
        rw [HN.out] at hnl
        rw [HP.out, HN.out] at HQ
        clear HP HN
        generalize (Lib.cut r [61, 34]).1 = a at *
        generalize (Lib.cut r [61, 34]).2.1 = b at *
        have hrv := fun W => readValue_any b W (by omega)
        generalize rdVal b = D at *
        obtain ⟨x, y⟩ := D
        dsimp only at *
        have htr := trim_any y [44]
        generalize Lib.trimPrefix y [44] = z at *
        go_wp2_with fail
        refine hc2.mono ?_
        rintro e w2 ⟨rfl, hb2⟩
        have hb02 : Below w.heap.size w w2 := hb.trans (hb2.mono hb.size)
        have hbx := Box.new w2 (a, [])
        have hbn := bal (Below.refl _ w2) (.cells #[tx a, tx []] 58)
        go_wp2_with fail
        refine (hrv _).mono ?_
        rintro e w4 ⟨rfl, hb4⟩
        have hbx4 := hbx.later hb4
        have hbx5 := hbx4.put1 x
        have B25 := (Below.chain hbn hb4).setCell (p := ⟨w2.heap.size, 1, none⟩) (Nat.le_refl _) (tx x)
        have ho5 := (ho.later hb2).later B25
        have hb05 := hb02.trans (B25.mono hb02.size)
        obtain ⟨c0, c1, f0, f1⟩ := hbx4
        obtain ⟨d0, d1, _, _⟩ := hbx5
        have ho6 := ho5.later (bal (Below.refl _ _) (.cells #[tx a, tx x] 58))
        have hbo := bal hb05 (.cells #[tx a, tx x] 58)
        have hbx6 := Box.new (w4.setCell ⟨w2.heap.size, 1, none⟩ (tx x)) (a, x)
        go_wp2_with (first | (at_builtin; go_must (refine wpList_append_own _ rfl _ _ 30 rfl w.heap.size 58 i0 (.agg #[tx [], tx []]) 2 32 Tryz.underlying30 hi hz0 hz1 hz2 zero35 (by decide) _ _ _ rfl ho6 ⟨(w4.setCell ⟨w2.heap.size, 1, none⟩ (tx x)).heap.size, 0, none⟩ 1 1 (cellsP [(a, x)]) ?hx rfl hbx6.cells (cellsP_one _) ?h63 ?hby hbo.size ?_)))
        case hx => simp [Act.eval]
        case h63 => unfold maxLen; omega
        case hby => omega
        intro v' w7 ho7 hg7 _
        go_wp2_with (go_at_call 103; refine (htr _).mono ?_; rintro e w' ⟨rfl, rfl⟩)
        go_roundw
        case rel => exact ⟨z, _, l ++ [(a, x)], by omega, by simp; omega, rfl, rfl, Own.snoc ho7, HQ, hbo.grown hg7 hbo.size (fun k hk => (World.ownsRow.lt ho6 k hk).1)⟩
        case measure => rw [strLen_tx, strLen_tx]; omega
end Go.Proofs.YtcbjhfnlhpallaaGreatDoor
/- Parse: for every text. -/
namespace Go.Proofs.YtcbjhfnlhpallaaGreatDoor
open Go.RowKit

theorem rdAll_fit {s : Str} (hs : s.length ≤ 100000) : Fit (rdAll s) := fun p hp => by
  have := (rdAll_len s).1 p hp
  omega
theorem make_fit {l : List Pr} (h : Fit l) : Fit (makeL l) := by
  unfold makeL
  split
  · exact fun p hp => h p (List.mem_filter.1 ((srt_perm _).mem_iff.1 hp)).1
  · exact fun p hp => by cases hp
theorem make_len (l : List Pr) : (makeL l).length ≤ l.length := by
  unfold makeL
  split
  · rw [(srt_perm _).length_eq]
    exact List.length_filter_le _ _
  · simp
set_option maxHeartbeats 2000000 in
theorem parse_any (s : Str) (w : World) (hs : s.length ≤ 100000) (hm : Mx w) :
    Calls Tryz.prog 36 #[tx s] w fun e w' => ∃ v, e = .returned (.tuple #[v, .int .i64 (parseE s)]) ∧ Own w' w.heap.size v (parseL s) ∧ Below w.heap.size w w' := by
  have hr := read_any s w hs hm
  have hlen := (rdAll_len s).2
  have hfit := rdAll_fit hs
  have HO : Hid (okParse s = (decide (makeE (rdAll s) = 0) && decide (fPrint (makeL (rdAll s)) = s))) := rfl
  have HPL : Hid (parseL s = if okParse s = true then makeL (rdAll s) else []) := rfl
  have HPE : Hid (parseE s = if okParse s = true then 0 else 30) := rfl
  have hmf := make_fit hfit
  have hml := make_len (rdAll s)
  generalize rdAll s = l at *
  have hmk := fun (W : World) (xa : Option Addr) (c : Nat) (h : Ps W xa l.length l) => make_any xa l.length c l W (by omega) hfit h
  have hce : makeE l = 0 ∨ (makeE l = 31 ∨ makeE l = 30) := by
    unfold makeE
    split
    · simp
    · split <;> simp
  generalize makeL l = q at *
  generalize makeE l = E at *
  generalize parseE s = PE at *
  generalize parseL s = PL at *
  generalize okParse s = ok at *
  rcases hce with rfl | hne
  · by_cases hpr : fPrint q = s
    · have HE : Hid (PE = 0) := by show _ = _; rw [HPE.out, HO.out]; simp [hpr]
      have HL : Hid (PL = q) := by show _ = _; rw [HPL.out, HO.out]; simp [hpr]
      have hpr' : (fPrint q == s) = true := by simpa using hpr
      clear HPE HPL HO
      go_enter Tryz.func36, Tryz.ntmps36
      go_wp2_with fail
      refine hr.mono ?_
      rintro e w1 ⟨v1, rfl, ho1, hb1⟩
      obtain ⟨ao, cap, rfl, hps⟩ := ho1.fitN
      have hmk1 := hmk w1 ao cap hps
      go_wp2_with fail
      refine hmk1.mono ?_
      rintro e w2 ⟨v2, rfl, ho2, hb2⟩
      obtain ⟨ao2, cap2, rfl, hps2⟩ := ho2.fitN
      have hp := print_any ao2 q.length cap2 q w2 (by omega) hmf ((hm.later hb1).later hb2) hps2
      generalize fPrint q = t at *
      go_wp2_with fail
      refine hp.mono ?_
      rintro e w3 ⟨rfl, hb3⟩
      go_wp2
      go_ret2
      exact ⟨_, by rw [HE.out]; rfl, by rw [HL.out]; exact (ho2.base hb1.size).later hb3, Below.chain (Below.chain hb1 hb2) hb3⟩
    · have HE : Hid (PE = 30) := by show _ = _; rw [HPE.out, HO.out]; simp [hpr]
      have HL : Hid (PL = []) := by show _ = _; rw [HPL.out, HO.out]; simp [hpr]
      have hpr' : (fPrint q == s) = false := by simpa using hpr
      clear HPE HPL HO
      go_enter Tryz.func36, Tryz.ntmps36
      go_wp2_with fail
      refine hr.mono ?_
      rintro e w1 ⟨v1, rfl, ho1, hb1⟩
      obtain ⟨ao, cap, rfl, hps⟩ := ho1.fitN
      have hmk1 := hmk w1 ao cap hps
      go_wp2_with fail
      refine hmk1.mono ?_
      rintro e w2 ⟨v2, rfl, ho2, hb2⟩
      obtain ⟨ao2, cap2, rfl, hps2⟩ := ho2.fitN
      have hp := print_any ao2 q.length cap2 q w2 (by omega) hmf ((hm.later hb1).later hb2) hps2
      generalize fPrint q = t at *
      go_wp2_with fail
      refine hp.mono ?_
      rintro e w3 ⟨rfl, hb3⟩
      go_wp2
      go_ret2
      exact ⟨_, by rw [HE.out]; rfl, by rw [HL.out]; exact Own.none _ _, Below.chain (Below.chain hb1 hb2) hb3⟩
  · have hE0 : E ≠ 0 := by omega
    have HE : Hid (PE = 30) := by show _ = _; rw [HPE.out, HO.out]; simp [hE0]
    have HL : Hid (PL = []) := by show _ = _; rw [HPL.out, HO.out]; simp [hE0]
    have hE' : (E != 0) = true := by rw [bne_iff_ne]; exact hE0
    clear HPE HPL HO hE0 hne
    go_enter Tryz.func36, Tryz.ntmps36
    go_wp2_with fail
    refine hr.mono ?_
    rintro e w1 ⟨v1, rfl, ho1, hb1⟩
    obtain ⟨ao, cap, rfl, hps⟩ := ho1.fitN
    have hmk1 := hmk w1 ao cap hps
    go_wp2_with fail
    refine hmk1.mono ?_
    rintro e w2 ⟨v2, rfl, ho2, hb2⟩
    obtain ⟨ao2, cap2, rfl, hps2⟩ := ho2.fitN
    go_wp2
    go_ret2
    exact ⟨_, by rw [HE.out]; rfl, by rw [HL.out]; exact Own.none _ _, Below.chain hb1 hb2⟩
end Go.Proofs.YtcbjhfnlhpallaaGreatDoor
