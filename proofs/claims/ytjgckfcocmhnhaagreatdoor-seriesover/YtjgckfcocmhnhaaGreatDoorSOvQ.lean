/- SeriesOver: what is told over a window is told of its samples, in plain words. -/
import Derived.Test.YtjgckfcocmhnhaaGreatDoorSOvPl
namespace Go.Proofs.YtjgckfcocmhnhaaGreatDoor.Sr
open Go.RowKit Rn

theorem num_eql (ev : Operand → Value) (o : Oper) (x y : Operand) (b : Bool) (v : Int) (ho : o.op = .binOp .eql 33 x y 33) (hx : ev x = .agg #[.bool b, .int .i64 v]) (hy : ev y = .agg #[.bool b, .int .i64 v]) (W : World) :
    Sem.run Tryz.prog (execOp ev o) W = Result.ok (.value (.bool true)) W := by
  unfold execOp
  simp only [ho, hx, hy]
  go_simp
theorem addAll_nrm (k now : Int) : ∀ (l a : List Smp) (x : Smp), x ∈ addAll k now a l → x ∈ a ∨ ∃ y ∈ l, x = nrm y
  | [], a, x, h => Or.inl h
  | s :: l, a, x, h => by
    have h' : x ∈ addAll k now (adL a k now s) l := h
    rcases addAll_nrm k now l _ x h' with h1 | ⟨y, hy, e⟩
    · unfold adL at h1
      split at h1
      · rcases List.mem_append.1 h1 with h2 | h2
        · exact Or.inl h2
        · exact Or.inr ⟨s, List.mem_cons_self .., List.mem_singleton.1 h2⟩
      · exact Or.inl h1
    · exact Or.inr ⟨y, List.mem_cons_of_mem _ hy, e⟩
theorem addAll_rg {k now : Int} {l : List Smp} (h : ∀ x ∈ l, R64 x.2.2) : ∀ x ∈ addAll k now [] l, R64 x.2.2 := by
  intro x hx
  rcases addAll_nrm k now l [] x hx with h1 | ⟨y, hy, e⟩
  · cases h1
  · have := h y hy
    rw [e]
    show R64 (nn (cnt y.2.1 y.2.2))
    unfold cnt
    split
    · exact r64_lit rfl
    · exact this
theorem S2.rg {w0 w : World} {sb : Nat} {now : Int} {l : List Smp} {v : Value} {q : List Lb.Pr} (h : S2 w0 w sb now [(oq, l)] v q) : ∀ x ∈ l, R64 x.2.2 := by
  obtain ⟨F, ⟨base, ao, n, cap, rs, hx, _, _, _, _, _, hL, _⟩, _⟩ := h
  have hlen : rs.length = 1 := by have := congrArg List.length hL; simpa using this.symm
  obtain ⟨r, rfl⟩ := List.length_eq_one_iff.1 hlen
  have e : l = r.l := by
    injection hL with e _
    exact congrArg Prod.snd e
  rw [e]
  exact (hx.s r (List.mem_singleton.2 rfl)).f.rg
theorem S2.le {w0 w : World} {sb : Nat} {now : Int} {l : List Smp} {v : Value} {q : List Lb.Pr} (h : S2 w0 w sb now [(oq, l)] v q) : l.length ≤ 100 := by
  obtain ⟨F, ⟨base, ao, n, cap, rs, hx, _, _, _, _, _, hL, _⟩, _⟩ := h
  have hlen : rs.length = 1 := by have := congrArg List.length hL; simpa using this.symm
  obtain ⟨r, rfl⟩ := List.length_eq_one_iff.1 hlen
  have e : l = r.l := by
    injection hL with e _
    exact congrArg Prod.snd e
  rw [e]
  exact (hx.s r (List.mem_singleton.2 rfl)).f.le
theorem addAll_len (k now : Int) : ∀ (l a : List Smp), (addAll k now a l).length ≤ a.length + l.length
  | [], a => Nat.le_refl _
  | s :: l, a => by
    have h := addAll_len k now l (adL a k now s)
    have h2 : (adL a k now s).length ≤ a.length + 1 := by unfold adL; split <;> simp
    show (addAll k now (adL a k now s) l).length ≤ _
    rw [List.length_cons]
    omega
theorem bst_rg {B : List Smp} (g : Bool) (h : ∀ x ∈ B, R64 x.2.2) : R64 (Ex.bst g B).2.2 := by
  by_cases e : B = []
  · subst e
    exact r64_lit rfl
  · exact h _ (Ex.thn_best (Ex.kg g) B e).1
theorem bst_cmp {B : List Smp} (h : ∀ x ∈ B, R64 x.2.2) : fCmp (cnt (Ex.bst false B).2.1 (Ex.bst false B).2.2) (cnt (Ex.bst true B).2.1 (Ex.bst true B).2.2) ≤ 0 := by
  by_cases e : B = []
  · subst e
    decide
  have h1 := (Ex.thn_best (Ex.kg false) B e).1
  have h2 := (Ex.thn_best (Ex.kg true) B e).2 _ h1
  have hV : ∀ g, V (cnt (Ex.bst g B).2.1 (Ex.bst g B).2.2) := fun g => by
    have := bst_rg g h
    unfold cnt
    split
    · exact ⟨by decide, by decide⟩
    · exact ⟨by unfold R64 at this; show _ ≤ (Ex.bst g B).2.2; omega, by unfold R64 at this; show (Ex.bst g B).2.2 ≤ _; omega⟩
  exact ((Ex.cmp_ky (hV false) (hV true)).1).2 h2
end Go.Proofs.YtjgckfcocmhnhaaGreatDoor.Sr
