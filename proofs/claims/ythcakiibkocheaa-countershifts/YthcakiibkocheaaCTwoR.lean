/- Two rows of samples that a call makes side by side. -/
import Derived.Test.YthcakiibkocheaaCRow
namespace Go.Proofs.Ythcakiibkocheaa
open Go.RowKit

/-- Two rows that lie apart. -/
def Dj (va vb : Value) : Prop := ∀ k, va.ownBlock = some k → vb.ownBlock ≠ some k
theorem Dj.symm {va vb : Value} (h : Dj va vb) : Dj vb va := fun k h1 h2 => h k h2 h1
theorem Own.keptO {w w' : World} {base : Nat} {v u : Value} {l : List Smp} (h : Own w base v l) (hg : w.grownBy w' u.ownBlock) (hd : Dj u v) : Own w' base v l := by
  refine World.ownsRow.kept h hg ?_
  cases hv : v.ownBlock with
  | none => exact Or.inl rfl
  | some k => exact Or.inr (fun e => hd k e.symm hv)
theorem Dj.next {w : World} {base : Nat} {va va' vb : Value} {l : List Smp} (h : Dj va vb) (hb : Own w base vb l) (hv : va'.ownBlock = va.ownBlock ∨ ∀ k, va'.ownBlock = some k → w.heap.size ≤ k) : Dj va' vb := by
  intro k h1 h2
  rcases hv with e | e
  · exact h k (e ▸ h1) h2
  · have := (World.ownsRow.lt hb k h2).2
    have := e k h1
    omega
/-- One more at a row's end: in place, or in a new block. -/
theorem append_where (w : World) (base : Nat) (v : Value) (l : List Smp) (t : Smp) (hown : Own w base v l) (b : Nat) (hbx : BoxS w b t) (hl : l.length ≤ 1000) (hbase : base ≤ w.heap.size) :
    ∃ v' w', (Builtin.append_ #[26, 26] 26 #[v, .slice (some ⟨b, 0, none⟩) 1 1]).run Try.prog w = .ok v' w' ∧ Own w' base v' (l ++ [t]) ∧ w.grownBy w' v.ownBlock ∧ (v'.ownBlock = v.ownBlock ∨ ∀ k, v'.ownBlock = some k → w.heap.size ≤ k) := by
  obtain ⟨i0, hi, hz0, hz1, hz2⟩ := infoS_parts
  have hu : Try.prog.underlying 26 = some (.slice 32) := Try.underlying26
  have hnews : ∀ j u, (cellsS [t])[j]? = some u → w.cell? ((⟨b, 0, none⟩ : Addr).add j) = some u := hbx.cells
  have hnl : (cellsS [t]).length = 1 * 3 := by rw [cellsS_length]; rfl
  have h63 : l.length + 1 ≤ maxLen := by unfold maxLen; omega
  obtain ⟨v', w', hr, h1, h2, _⟩ := run_append_own (P := Try.prog) w base 26 26 32 i0 (sv s0) 3 24 hu hi hz0 hz1 hz2 zeroS (by decide) v l.length (cellsS l) hown ⟨b, 0, none⟩ 1 1 (cellsS [t]) hnl hnews (cellsS_one _) h63 (by omega) hbase
  refine ⟨v', w', hr, Own.snoc h1, h2, ?_⟩
  rcases hown.2 with ⟨rfl, h0⟩ | ⟨g, cap, cur, rfl, hbg, hg, hnc, hcm, hcs, htake⟩
  · have hx : l = [] := List.length_eq_zero_iff.1 h0
    subst hx
    obtain ⟨v2, w2, hr2, k1, _, _⟩ := run_append_own (P := Try.prog) w w.heap.size 26 26 32 i0 (sv s0) 3 24 hu hi hz0 hz1 hz2 zeroS (by decide) (.slice none 0 0) 0 [] (World.ownsRow_nil w w.heap.size 32 3) ⟨b, 0, none⟩ 1 1 (cellsS [t]) hnl hnews (cellsS_one _) (by unfold maxLen; omega) (by omega) (Nat.le_refl _)
    rw [hr] at hr2
    injection hr2 with e1 e2
    subst e1 e2
    exact Or.inr fun k hk => (World.ownsRow.lt k1 k hk).1
  · by_cases hroom : l.length + 1 ≤ cap
    · have hfit : l.length * i0.size + (cellsS [t]).length ≤ cur.size := by rw [hnl, hcs, hz1]; omega
      have hr2 := run_append_room (P := Try.prog) w 26 26 32 i0 hu hi g l.length cap cur hg ⟨b, 0, none⟩ 1 1 (cellsS [t]) (by rw [hz1]; exact hnl) hnews (cellsS_one _) hroom hfit
      rw [hr] at hr2
      injection hr2 with e1 e2
      subst e1
      exact Or.inl rfl
    · have holds : ∀ j u, (cellsS l)[j]? = some u → w.cell? ((⟨g, 0, none⟩ : Addr).add j) = some u := World.ownsRow.cells hown (g := g) rfl
      have hr2 := run_append_grow (P := Try.prog) w 26 26 32 i0 (sv s0) hu hi hz0 ⟨g, 0, none⟩ l.length cap (cellsS l) (by rw [hz1]; exact hown.1) holds ⟨b, 0, none⟩ 1 1 (cellsS [t]) (by rw [hz1]; exact hnl) hnews (by omega) (by omega) (growslice_fits (by omega) (by rw [hz2]; omega))
      rw [hr] at hr2
      injection hr2 with e1 e2
      subst e1
      exact Or.inr fun k hk => by
        have : k = w.heap.size := by simpa [Value.ownBlock] using hk.symm
        omega
theorem wpList_append_where (w : World) {ops : Array Oper} {rest : List Oper} {o : Oper} {a : Act} {Q : Exit → Act → World → Prop} (hgd : o.guard = none) (s x : Operand)
    (ho : o.op = .call { callee := .builtin .append, args := #[s, x], argTypes := #[26, 26] }) (hty : o.type = 26) (base : Nat) (v : Value) (l : List Smp) (t : Smp) (hs : a.eval s = v) (hown : Own w base v l)
    (b : Nat) (hx : a.eval x = .slice (some ⟨b, 0, none⟩) 1 1) (hbx : BoxS w b t) (hl : l.length ≤ 1000) (hbase : base ≤ w.heap.size)
    (h : ∀ v' w', Own w' base v' (l ++ [t]) → w.grownBy w' v.ownBlock → (v'.ownBlock = v.ownBlock ∨ ∀ k, v'.ownBlock = some k → w.heap.size ≤ k) → wpList Try.prog ops Q rest (a.put o.dst v') w') : wpList Try.prog ops Q (o :: rest) a w := by
  refine wpList_plain hgd fun K hK => ?_
  obtain ⟨v', w', hr, h1, h2, h3⟩ := append_where w base v l t hown b hbx hl hbase
  unfold Oper.wp
  simp [execOp, ho, hty, resolve, invoke, builtin, hs, hx, hr, Result.andThen]
  exact hK _ _ (h v' w' h1 h2 h3)
theorem Own.nil (w : World) (base : Nat) : Own w base (.slice none 0 0) [] := World.ownsRow_nil w base 32 3
end Go.Proofs.Ythcakiibkocheaa
