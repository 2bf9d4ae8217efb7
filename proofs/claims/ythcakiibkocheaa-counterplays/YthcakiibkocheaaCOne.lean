/- there, copy, forget: of every counter. -/
import Derived.Test.YthcakiibkocheaaCRow
import Derived.BigRegion
import Derived.BigQuiet
import Derived.Laws.IdiomCopy
namespace Go.Proofs.Ythcakiibkocheaa
open Go.RowKit

theorem slice_h (b c : Nat) (h : c ≤ 100) (W : World) : (Instr.sliceAt 54 (.pointer (some ⟨b, 0, none⟩)) none (some (.int .i64 c)) none).run Try.prog W = .ok (.slice (some ⟨b, 0, none⟩) c 100) W := by
  have hal : Try.prog.arrayLen 54 = 100 := by kernel_rfl
  rw [run_sliceAt_array_h W 54 ⟨b, 0, none⟩ (by simp [Program.arrayLen, Program.elem, Try.underlying54]) .i64 (c : Int) (by omega) (by rw [hal]; omega)]
  have hz : (sizeOf (Try.prog.elem 54)).run Try.prog W = .ok 3 W := by kernel_rfl
  rw [hz, hal]
  show Result.ok (slicedAt _ 0 ((c : Int).toNat) 100 3) W = _
  simp [slicedAt, Addr.add]
theorem slice_all (b : Nat) (W : World) : (Instr.sliceAt 54 (.pointer (some ⟨b, 0, none⟩)) none none none).run Try.prog W = .ok (.slice (some ⟨b, 0, none⟩) 100 100) W := by
  kernel_rfl
/-- Where a cut from place i on lies. -/
def cutA (b i : Nat) : Addr := if i = 100 then ⟨b, 0, none⟩ else ⟨b, i * 3, none⟩
theorem slice_lh (b i c : Nat) (hi : i ≤ c) (h : c ≤ 100) (W : World) : (Instr.sliceAt 54 (.pointer (some ⟨b, 0, none⟩)) (some (.int .i64 i)) (some (.int .i64 c)) none).run Try.prog W = .ok (.slice (some (cutA b i)) (c - i) (100 - i)) W := by
  have hal : Try.prog.arrayLen 54 = 100 := by kernel_rfl
  rw [run_sliceAt_array_lh W 54 ⟨b, 0, none⟩ (by simp [Program.arrayLen, Program.elem, Try.underlying54]) .i64 .i64 (i : Int) (c : Int) (by omega) (by omega) (by rw [hal]; omega)]
  have hz : (sizeOf (Try.prog.elem 54)).run Try.prog W = .ok 3 W := by kernel_rfl
  rw [hz, hal]
  show Result.ok (slicedAt _ ((i : Int).toNat) ((c : Int).toNat) 100 3) W = _
  unfold slicedAt cutA
  simp only [Int.toNat_natCast]
  by_cases e : i = 100
  · subst e; simp
  · rw [if_neg (by omega), if_neg e]; simp [Addr.add]; exact fun e => e.symm
set_option maxHeartbeats 1000000 in
theorem there_any (b : Nat) (l : List Smp) (k now : Int) (w : World) (h : Rl w b l k now) :
    Calls Try.prog 26 #[.pointer (some ⟨b, 0, none⟩)] w fun e w' => e = .returned (.slice (some ⟨b, 0, none⟩) l.length 100) ∧ Below w.heap.size w w' := by
  have h1 := h.count
  have hc := h.le
  have hS := slice_h b l.length hc
  generalize l.length = c at *
  clear h
  have hb := Below.refl w.heap.size w
  go_enter Try.func26, Try.ntmps26
  go_wp2_with fail
  go_quiet (fail)
  go_wp2
  go_ret
  exact ⟨rfl, below_drewN hb _⟩
/-- A row copied within the places. -/
theorem run_copy3 (w : World) (b dCap : Nat) (a : Addr) (n sCap : Nat) (r : List Smp) (hr : r.length = n) (hn : n ≤ 100)
    (hsrc : ∀ j v, (cellsS r)[j]? = some v → w.cell? (a.add j) = some v) (hc : ∀ j, j < n * 3 → (w.cell? ⟨b, j, none⟩).isSome = true) (hf : ∀ j, j < n * 3 → w.frozen? ⟨b, j, none⟩ = false) :
    (Builtin.copy_ #[26, 26] 3 #[.slice (some ⟨b, 0, none⟩) 100 dCap, .slice (some a) n sCap]).run Try.prog w = .ok (.int .i64 n) (w.setCells b 0 (cellsS r)) := by
  obtain ⟨i, hi, hz, hs, hb⟩ := infoS_parts
  have hL : (cellsS r).length = n * 3 := by rw [cellsS_length, hr]
  have hl := run_loadCells_list (P := Try.prog) w a (cellsS r) hsrc
  have hst := run_storeCells_cells (P := Try.prog) b 0 (cellsS r) 0 w (by simpa [hL] using hc) (by simpa [hL] using hf) (cellsS_one r)
  rw [hL] at hl
  have hm : Nat.min n 100 = n := Nat.min_eq_left hn
  have hu : Try.prog.underlying 26 = some (.slice 32) := Try.underlying26
  simp [Builtin.copy_, run_underlying hu, Builtin.lenOf, Builtin.firstCells, sizeOf, typeInfo, hi, hs, hm, hl, hst]
  rfl
theorem step_copy3 {ops : Array Oper} {o : Oper} {a : Act} {W : World} {K : Act → World → Prop} {Q : Exit → Act → World → Prop} {E : Prop} (s x : Operand) (d : Option Tmp)
    (ho : o.op = .call { callee := .builtin .copy, args := #[s, x], argTypes := #[26, 26] }) (hd : o.dst = d) (ht : o.type = 3) (hw : Region.wanted o (yielded ops a.tmps) = true)
    (u v : Value) (hs : a.eval s = u) (hx : a.eval x = v) {r : Value} {W' : World} (hr : (Builtin.copy_ #[26, 26] 3 #[u, v]).run Try.prog W = .ok r W') (h : K (a.put d r) W') :
    if Region.wanted o (yielded ops a.tmps) = true then Oper.wp Try.prog o a W K Q else E := by
  subst hd
  rw [if_pos hw]
  unfold Oper.wp
  simp [execOp, ho, ht, resolve, invoke, builtin, hs, hx, hr, Result.andThen]
  exact h
theorem grown_setCells (b : Nat) : ∀ (vs : List Value) (o : Nat) (w : World), w.grownBy (w.setCells b o vs) (some b)
  | [], _, w => grown_below (Below.refl _ w) _
  | v :: r, o, w => (grown_set w b o v).trans (grown_setCells b r (o + 1) _)
theorem Rg.copied {w : World} {b : Nat} {f : Nat → Smp} {c : Nat} {k now : Int} (h : Rg w b f c k now) (r : List Smp) (hr : r.length ≤ 100) : Rg (w.setCells b 0 (cellsS r)) b (fun i => if i < r.length then r.getD i s0 else f i) c k now := by
  have hL := cellsS_length r
  have hs : ∀ j, j < 300 → (w.cell? ⟨b, j, none⟩).isSome = true := fun j hj => by
    rcases (by omega : j % 3 = 0 ∨ j % 3 = 1 ∨ j % 3 = 2) with e | e | e
    · rw [show j = j / 3 * 3 by omega, h.ct _ (by omega)]; rfl
    · rw [show j = j / 3 * 3 + 1 by omega, h.cv _ (by omega)]; rfl
    · rw [show j = j / 3 * 3 + 2 by omega, h.cn _ (by omega)]; rfl
  have hin := World.cell?_setCells_in b (cellsS r) 0 w (fun j hj => by rw [Nat.zero_add]; exact hs j (by omega))
  have hout : ∀ j, r.length * 3 ≤ j → (w.setCells b 0 (cellsS r)).cell? ⟨b, j, none⟩ = w.cell? ⟨b, j, none⟩ := fun j hj => World.cell?_setCells_out b (cellsS r) 0 w _ (fun _ _ => Or.inr (by show 0 + (cellsS r).length ≤ j; omega))
  have hget : ∀ j u, j < r.length * 3 → (cellsS r)[j]? = some u → (w.setCells b 0 (cellsS r)).cell? ⟨b, j, none⟩ = some u := fun j u hj hu => by
    have := hin j (by omega)
    rw [Nat.zero_add] at this
    rw [this, ← hu, List.getElem?_eq_getElem]
  refine ⟨fun j hj => ?_, fun j hj => ?_, fun j hj => ?_, (hout _ (by omega)).trans h.cc, (hout _ (by omega)).trans h.ck, (hout _ (by omega)).trans h.cw, fun j hj => (World.frozen?_setCells b _ _ _ _).trans (h.fz j hj)⟩
  all_goals
    by_cases e : j < r.length
    · rw [if_pos e]
      obtain ⟨g0, g1, g2⟩ := cellsS_get e
      first | exact hget _ _ (by omega) g0 | exact hget _ _ (by omega) g1 | exact hget _ _ (by omega) g2
    · rw [if_neg e]
      first | exact (hout _ (by omega)).trans (h.ct j hj) | exact (hout _ (by omega)).trans (h.cv j hj) | exact (hout _ (by omega)).trans (h.cn j hj)
theorem Rl.source {w : World} {b : Nat} {l : List Smp} {k now : Int} (h : Rl w b l k now) (i : Nat) : ∀ j v, (cellsS (l.drop i))[j]? = some v → w.cell? ((cutA b i).add j) = some v := by
  obtain ⟨f, hl, hr, hf⟩ := h
  intro j v hv
  have hj : j < (cellsS (l.drop i)).length := by
    rcases Nat.lt_or_ge j (cellsS (l.drop i)).length with h | h
    · exact h
    · rw [List.getElem?_eq_none h] at hv; cases hv
  rw [cellsS_length, List.length_drop] at hj
  unfold cutA
  rw [if_neg (by omega)]
  show w.cell? (Addr.add ⟨b, i * 3, none⟩ j) = _
  have e0 : Addr.add ⟨b, i * 3, none⟩ j = ⟨b, i * 3 + j, none⟩ := by unfold Addr.add; split <;> simp_all
  rw [e0]
  have hm : j / 3 < (l.drop i).length := by rw [List.length_drop]; omega
  obtain ⟨g0, g1, g2⟩ := cellsS_get hm
  have hd : (l.drop i).getD (j / 3) s0 = l.getD (i + j / 3) s0 := by rw [List.getD_eq_getElem?_getD, List.getD_eq_getElem?_getD, List.getElem?_drop]
  rw [hd, ← hf (i + j / 3) (by omega)] at g0 g1 g2
  rcases (by omega : j % 3 = 0 ∨ j % 3 = 1 ∨ j % 3 = 2) with e | e | e
  · rw [show j = j / 3 * 3 by omega] at hv
    rw [g0] at hv
    rw [show i * 3 + j = (i + j / 3) * 3 by omega, hr.ct _ (by omega)]; exact hv
  · rw [show j = j / 3 * 3 + 1 by omega] at hv
    rw [g1] at hv
    rw [show i * 3 + j = (i + j / 3) * 3 + 1 by omega, hr.cv _ (by omega)]; exact hv
  · rw [show j = j / 3 * 3 + 2 by omega] at hv
    rw [g2] at hv
    rw [show i * 3 + j = (i + j / 3) * 3 + 2 by omega, hr.cn _ (by omega)]; exact hv
/-- What is behind i moved to the front, so many told. -/
theorem Rl.moved {w : World} {b : Nat} {l : List Smp} {k now : Int} (h : Rl w b l k now) (i c : Nat) (hi : i ≤ l.length) (hc : c = l.length - i) : Rl ((w.setCells b 0 (cellsS (l.drop i))).setCell ⟨b, 300, none⟩ (.int .i64 c)) b (l.drop i) k now := by
  obtain ⟨f, hl, hr, hf⟩ := h
  have hd : (l.drop i).length = c := by rw [List.length_drop, hc]
  have h1 := (hr.copied (l.drop i) (by omega)).setC c
  refine ⟨_, by omega, by rw [hd]; exact h1, fun j hj => ?_⟩
  rw [if_pos hj]
theorem fg_drop (t : Int) : ∀ (l : List Smp) (i : Nat), i < l.length → (l.getD i s0).1 ≤ t → fg t (l.drop (i + 1)) = fg t (l.drop i) := by
  intro l i hi ht
  rw [List.drop_eq_getElem_cons hi]
  rw [List.getD_eq_getElem?_getD, List.getElem?_eq_getElem hi] at ht
  have ht' : (l[i]).1 ≤ t := ht
  show _ = if _ then _ else _
  rw [if_pos ht']
theorem fg_stop (t : Int) (l : List Smp) (i : Nat) (h : i < l.length → ¬ (l.getD i s0).1 ≤ t) : fg t (l.drop i) = l.drop i := by
  rcases Nat.lt_or_ge i l.length with hi | hi
  · have ht := h hi
    rw [List.drop_eq_getElem_cons hi]
    rw [List.getD_eq_getElem?_getD, List.getElem?_eq_getElem hi] at ht
    have ht' : ¬ (l[i]).1 ≤ t := ht
    show (if _ then _ else _) = _
    rw [if_neg ht']
  · rw [List.drop_of_length_le hi]
    rfl
end Go.Proofs.Ythcakiibkocheaa
