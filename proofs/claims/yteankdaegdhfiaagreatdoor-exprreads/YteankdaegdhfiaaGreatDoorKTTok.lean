/- Texts that the others lean on. -/
import Derived.Test.YteankdaegdhfiaaGreatDoorKTTree
namespace Go.Proofs.YteankdaegdhfiaaGreatDoor
open Go.ChangeShapes Go.WideShapes Go.ChangeAt Go.RowKit Go.Deep
theorem c39 : Tryz.prog.cellsOf 39 = 6 := by kernel_rfl
section
variable {H : Type} {enc : TypeId × Value → H} {W : World}
theorem l5 {α : Type} : ∀ {l : List α}, l.length = 5 → ∃ a b c d e, l = [a, b, c, d, e]
 | [a, b, c, d, e], _ => ⟨a, b, c, d, e, rfl⟩
theorem toks9_of {fuel : Nat} {v : Value} {x : DataW H × List MemPlace} (h : Rdg enc W fuel 37 [v] x) : ∃ (ao : Option Addr) (len cap : Nat) (l : List Tk), v = .slice ao len cap ∧ (ao = none → len = 0 ∧ cap = 0) ∧ Ts W ao len l ∧ (∀ y ∈ l, Big y.t) ∧ len ≤ 9223372036854775807 := by
 have hnn : v = .slice none 0 0 ∨ ∃ a len cap, v = .slice (some a) len cap := by
  rcases DataW.trod_slice Tryz.underlying37 h with h0 | ⟨a, len, cap, elems, rest, n, hn, hcs, _⟩
  ·
   exact Or.inl (by simpa using h0.1)
  ·
   exact Or.inr ⟨a, len, cap, by simpa using hcs⟩
 obtain ⟨ao, len, cap, rfl, hl, hm, b, off, n, _, hao, hel⟩ := sl_of 6 c39 (by omega) Tryz.underlying37 h
 obtain ⟨f, hf⟩ := @choose_lt Tk ⟨tk0⟩ len (fun i s => (∀ j, j < 6 → W.cell? ⟨b, off + (i * 6 + j), none⟩ = (six s)[j]?) ∧ Big s.t) (fun i hi => by
  obtain ⟨cs', x', h1, h2, h3⟩ := hel i hi
  obtain ⟨xs, k, _, _, _, hxl, hfs⟩ := DataW.trod_struct Tryz.underlying39 h3
  obtain ⟨y0, y1, y2, y3, y4, rfl⟩ := l5 (hxl.trans rfl)
  obtain ⟨v0, v1, v2, v3, v4, v5, rfl⟩ := l6 h1
  have g0 := hfs 0 _ rfl
  have g1 := hfs 1 _ rfl
  have g2 := hfs 2 _ rfl
  have g3 := hfs 3 _ rfl
  have g4 := hfs 4 _ rfl
  simp [cS, cI, cN] at g0 g1 g2 g3 g4
  obtain ⟨n0, rfl⟩ := num_of g0
  obtain ⟨n1, rfl⟩ := num_of g1
  obtain ⟨s2, rfl, b2⟩ := str_of g2
  obtain ⟨xs2, k2, _, _, _, hxl2, hfs2⟩ := DataW.trod_struct Tryz.underlying24 g3
  obtain ⟨z0, z1, rfl⟩ := l2 (hxl2.trans rfl)
  have r0 := hfs2 0 _ rfl
  have r1 := hfs2 1 _ rfl
  simp [cB, cJ] at r0 r1
  obtain ⟨o, rfl⟩ := bool_of r0
  obtain ⟨nv, rfl, _, _⟩ := i64_of r1
  obtain ⟨n4, rfl⟩ := num_of g4
  exact ⟨⟨n0, n1, s2, o, nv, n4⟩, fun j hj => h2 j hj, b2⟩)
 refine ⟨ao, len, cap, (List.range len).map f, rfl, ?_, ⟨by simp, fun hp => ?_⟩, ?_, hm⟩
 ·
  rintro rfl
  rcases hnn with e | ⟨a, len', cap', e⟩
  ·
   injection e with _ e1 e2
   exact ⟨e1, e2⟩
  ·
   injection e with e _ _
   cases e
 ·
  refine ⟨b, off, hao hp, fun j hj i hi => ?_⟩
  have e : ((List.range len).map f).getD j tk0 = f j := by simp [List.getD, hj]
  rw [e, ← (hf j hj).1 i hi, Nat.add_assoc]
 ·
  intro y hy
  obtain ⟨i, hi, rfl⟩ := List.mem_map.1 hy
  exact (hf i (List.mem_range.1 hi)).2
end
end Go.Proofs.YteankdaegdhfiaaGreatDoor
