/- Windows of samples, plainly: which go, which stay, what is told of them. -/
import Derived.Test.YthcakiibkocheaaCMem
namespace Go.Proofs.Ythcakiibkocheaa
open Go.RowKit

/-- A window's samples, in order, its width, its time. -/
structure Wf (l : List Smp) (k nw : Int) : Prop where
  k1 : 1 ≤ k ∧ k ≤ 100
  n1 : 0 ≤ nw ∧ nw ≤ 1000000
  so : l.Pairwise (fun a b => a.1 < b.1)
  at_ : ∀ s ∈ l, nw - k < s.1 ∧ s.1 ≤ nw ∧ 0 ≤ s.1
  rg : ∀ s ∈ l, R64 s.2.2
theorem count_sorted : ∀ (l : List Smp) (lo hi : Int), l.Pairwise (fun a b => a.1 < b.1) → (∀ s ∈ l, lo < s.1 ∧ s.1 ≤ hi) → lo ≤ hi → (l.length : Int) ≤ hi - lo
  | [], lo, hi, _, _, h => by simp; omega
  | a :: l, lo, hi, hp, ha, h => by
    rw [List.pairwise_cons] at hp
    have h1 := ha a List.mem_cons_self
    have := count_sorted l a.1 hi hp.2 (fun s hs => ⟨hp.1 s hs, (ha s (List.mem_cons_of_mem _ hs)).2⟩) h1.2
    rw [List.length_cons]
    omega
theorem Wf.len {l : List Smp} {k nw : Int} (h : Wf l k nw) : (l.length : Int) ≤ k := by
  have := count_sorted l (nw - k) nw h.so (fun s hs => ⟨(h.at_ s hs).1, (h.at_ s hs).2.1⟩) (by have := h.k1; omega)
  omega
theorem Wf.le {l : List Smp} {k nw : Int} (h : Wf l k nw) : l.length ≤ 100 := by
  have := h.len
  have := h.k1
  omega
theorem Wf.none {k nw : Int} (hk : 1 ≤ k ∧ k ≤ 100) (hn : 0 ≤ nw ∧ nw ≤ 1000000) : Wf [] k nw := ⟨hk, hn, List.Pairwise.nil, (by intro s h; cases h), (by intro s h; cases h)⟩

/-- What is at most t goes, from the oldest one on. -/
def fg (t : Int) : List Smp → List Smp
  | [] => []
  | s :: r => if s.1 ≤ t then fg t r else s :: r
theorem fg_sub (t : Int) : ∀ l, (fg t l).Sublist l
  | [] => List.Sublist.refl _
  | s :: r => by
    unfold fg
    split
    · exact (fg_sub t r).trans (List.sublist_cons_self s r)
    · exact List.Sublist.refl _
theorem fg_above (t : Int) : ∀ l : List Smp, l.Pairwise (fun a b => a.1 < b.1) → ∀ s ∈ fg t l, t < s.1
  | [], _, s, h => by cases h
  | a :: r, hp, s, h => by
    rw [List.pairwise_cons] at hp
    unfold fg at h
    split at h
    · exact fg_above t r hp.2 s h
    · rcases List.mem_cons.1 h with rfl | h
      · omega
      · have := hp.1 s h
        omega
/-- What time it is, when it is told to be n. -/
def onw (nw n : Int) : Int := max nw (min n 1000000)
theorem onw_range {nw : Int} (n : Int) (h : 0 ≤ nw ∧ nw ≤ 1000000) : nw ≤ onw nw n ∧ 0 ≤ onw nw n ∧ onw nw n ≤ 1000000 := by unfold onw; omega
theorem Wf.advance {l : List Smp} {k nw : Int} (h : Wf l k nw) (n : Int) : Wf (fg (onw nw n - k) l) k (onw nw n) := by
  have hr := onw_range n h.n1
  refine ⟨h.k1, hr.2, h.so.sublist (fg_sub _ l), fun s hs => ?_, fun s hs => h.rg s ((fg_sub _ l).subset hs)⟩
  have h1 := fg_above _ l h.so s hs
  have h2 := h.at_ s ((fg_sub _ l).subset hs)
  omega

/-- A sample as it is told. -/
def nrm (s : Smp) : Smp := (s.1, ov (cnt s.2.1 s.2.2), nn (cnt s.2.1 s.2.2))
def lst (l : List Smp) : Smp := l.getD (l.length - 1) s0
/-- Why a sample is none of a window's, or 0. -/
def adE (l : List Smp) (k nw : Int) (t : Int) : Int := if t < 0 ∨ nw < t ∨ t ≤ nw - k then 152 else if l ≠ [] ∧ t ≤ (lst l).1 then 150 else 0
def adL (l : List Smp) (k nw : Int) (s : Smp) : List Smp := if adE l k nw s.1 = 0 then l ++ [s] else l
theorem lst_snoc (l : List Smp) (s : Smp) : lst (l ++ [s]) = s := by
  unfold lst
  rw [List.length_append, List.length_singleton, Nat.add_sub_cancel, List.getD_eq_getElem?_getD, List.getElem?_append_right (Nat.le_refl _), Nat.sub_self]
  rfl
theorem lst_mem {l : List Smp} (h : l ≠ []) : lst l ∈ l := by
  have hp := List.length_pos_iff.2 h
  unfold lst
  rw [List.getD_eq_getElem?_getD, List.getElem?_eq_getElem (by omega)]
  exact List.getElem_mem _
theorem lst_last {l : List Smp} (hp : l.Pairwise (fun a b => a.1 < b.1)) : ∀ s ∈ l, s.1 ≤ (lst l).1 := by
  rcases List.eq_nil_or_concat l with rfl | ⟨r, x, rfl⟩
  · intro s h; cases h
  · intro s hs
    rw [List.concat_eq_append] at *
    rw [lst_snoc]
    rcases List.mem_append.1 hs with h | h
    · exact Int.le_of_lt ((List.pairwise_append.1 hp).2.2 s h x List.mem_cons_self)
    · rcases List.mem_cons.1 h with rfl | h
      · exact Int.le_refl _
      · cases h
theorem nrm_r64 (s : Smp) (h : R64 s.2.2) : R64 (nrm s).2.2 := by
  have := V.cnt (o := s.2.1) h.1 h.2
  exact ⟨by have := this.1; show _ ≤ nn _; omega, this.2⟩
theorem Wf.add {l : List Smp} {k nw : Int} (h : Wf l k nw) (s : Smp) (hs : R64 s.2.2) : Wf (adL l k nw s) k nw := by
  unfold adL
  split
  · rename_i he
    unfold adE at he
    by_cases h1 : s.1 < 0 ∨ nw < s.1 ∨ s.1 ≤ nw - k
    · rw [if_pos h1] at he; cases he
    · rw [if_neg h1] at he
      by_cases h2 : l ≠ [] ∧ s.1 ≤ (lst l).1
      · rw [if_pos h2] at he; cases he
      · refine ⟨h.k1, h.n1, List.pairwise_append.2 ⟨h.so, List.pairwise_singleton _ _, fun a ha b hb => ?_⟩, fun x hx => ?_, fun x hx => ?_⟩
        · obtain rfl : b = s := by simpa using hb
          have hne : l ≠ [] := fun e => by rw [e] at ha; cases ha
          have h3 := lst_last h.so a ha
          have h4 : ¬ b.1 ≤ (lst l).1 := fun e => h2 ⟨hne, e⟩
          show a.1 < b.1
          omega
        · rcases List.mem_append.1 hx with hx | hx
          · exact h.at_ x hx
          · obtain rfl : x = s := by simpa using hx
            show nw - k < x.1 ∧ x.1 ≤ nw ∧ 0 ≤ x.1
            omega
        · rcases List.mem_append.1 hx with hx | hx
          · exact h.rg x hx
          · obtain rfl : x = s := by simpa using hx
            exact hs
  · exact h
/-- The values of samples. -/
def vls (l : List Smp) : List (Bool × Int) := l.map (·.2)
end Go.Proofs.Ythcakiibkocheaa
