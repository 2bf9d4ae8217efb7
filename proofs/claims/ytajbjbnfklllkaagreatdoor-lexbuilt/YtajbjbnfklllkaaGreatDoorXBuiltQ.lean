/- Rows of two tokens; texts without line feeds. -/
import Derived.Test.YtajbjbnfklllkaaGreatDoorXBuiltP
import Derived.Test.YtajbjbnfklllkaaGreatDoorXKnown
import Derived.Test.YtajbjbnfklllkaaGreatDoorXEq
import Derived.Test.YtajbjbnfklllkaaGreatDoorBaseG
namespace Go.Proofs.YtajbjbnfklllkaaGreatDoor
open Go.RowKit

theorem two_cells {w : World} {base : Nat} {v : Value} {x y : Tk} (h : OwnT w base v [x, y]) : ∃ g cap, v = .slice (some ⟨g, 0, none⟩) 2 cap ∧ 2 ≤ cap ∧ AtT w g 0 x := by
  obtain ⟨ao, cap, rfl, hts, hc, hg⟩ := h.slice
  have hts : Ts w ao 2 [x, y] := hts
  obtain ⟨b, o, rfl, _⟩ := hts.2 (by omega)
  obtain ⟨g, e, _, _⟩ := hg _ rfl
  injection e with e1 e2 _
  subst e1 e2
  exact ⟨b, cap, rfl, hc, hts.at 0 (by omega)⟩
theorem wl_take {P : Program} {ops : Array Oper} {rest : List Oper} {o : Oper} {a : Act} {Q : Exit → Act → World → Prop} {w : World} (d : Option Tmp) (v : Value) (hd : o.dst = d) (hw : Region.wanted o (yielded ops a.tmps) = true) (hy : (execOp a.eval o).run P w = .ok (.value v) w) (h : wpList P ops Q rest (a.put d v) w) : wpList P ops Q (o :: rest) a w := by
  subst hd
  unfold wpList
  rw [if_pos hw]
  refine Or.inl ?_
  unfold Oper.wp
  rw [hy]
  exact h
theorem wl_skip {P : Program} {ops : Array Oper} {rest : List Oper} {o : Oper} {a : Act} {Q : Exit → Act → World → Prop} {w : World} (d : Option Tmp) (hd : o.dst = d) (hw : Region.wanted o (yielded ops a.tmps) = false) (h : wpList P ops Q rest (a.put d undef) w) : wpList P ops Q (o :: rest) a w := by
  subst hd
  exact wpList_skip hw h
theorem val_line {s : Str} (h : rVal s = true) : s.contains 10 = false := by
  unfold rVal at h
  simp only [Bool.and_eq_true, Bool.not_eq_true'] at h
  exact h.1
end Go.Proofs.YtajbjbnfklllkaaGreatDoor
