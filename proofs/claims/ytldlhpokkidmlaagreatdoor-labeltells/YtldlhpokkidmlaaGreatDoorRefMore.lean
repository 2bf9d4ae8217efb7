/- The reference's in, less, Keep, Without, Cmp: as the program's. -/
import Derived.Test.YtldlhpokkidmlaaGreatDoorRefSort
namespace Go.Proofs.YtldlhpokkidmlaaGreatDoor
open Go.RowKit

theorem str_has {ns : List Str} {j : Nat} (hj : j < ns.length) : ns.getD j [] = ns[j] := by simp [List.getD, List.getElem?_eq_getElem hj]
theorem contains_drop {ns : List Str} {s : Str} {j : Nat} (hj : j < ns.length) (h : (ns.getD j [] == s) = false) (h0 : (ns.take j).contains s = false) : (ns.take (j + 1)).contains s = false := by
  rw [str_has hj] at h
  rw [List.take_succ_eq_append_getElem hj, List.contains_append, h0, Bool.false_or]
  simp only [List.contains_cons, List.contains_nil, Bool.or_false]
  rw [beq_eq_false_iff_ne] at *
  exact fun e => h e.symm
theorem contains_hit {ns : List Str} {s : Str} {j : Nat} (hj : j < ns.length) (h : (ns.getD j [] == s) = true) : ns.contains s = true := by
  rw [str_has hj, beq_iff_eq] at h
  rw [List.contains_iff_mem, ← h]
  exact List.getElem_mem hj
def hasS (ns : List Str) (s : Str) : Bool := ns.contains s
set_option maxHeartbeats 1000000 in
theorem refIn_any (ya : Option Addr) (m d : Nat) (ns : List Str) (s : Str) (w : World) (hm : m ≤ 9223372036854775807) (hy : Ss w ya m ns) :
    Calls Tryz.prog 39 #[.slice ya m d, tx s] w fun e w' => e = .returned (.bool (hasS ns s)) ∧ w = w' := by
  obtain ⟨hlen, hcell⟩ := hy
  have HL : Hid (ns.length = m) := hlen
  clear hlen
  go_enter Tryz.func39, Tryz.ntmps39
  go_wp2_with fail
  go_loop [5] (fun i => ∃ j : Nat, j ≤ m ∧ i = .int .i64 j ∧ Hid ((ns.take j).contains s = false)) (fun i => m - (intOf i).toNat)
  case atStart => exact ⟨0, by omega, rfl, rfl⟩
  case round =>
    obtain ⟨j, hj, rfl, HF⟩ := hrel
    by_cases hlt : j < m
    · obtain ⟨b, off, rfl, hc⟩ := hcell (by omega)
      have k0 := hc j hlt
      have hlt' : j < ns.length := by rw [HL.out]; exact hlt
      have H1 : Hid _ := fun h => contains_drop (s := s) hlt' h HF.out
      have H2 : Hid _ := contains_hit (s := s) hlt'
      clear hc hcell hlt' HF
      generalize ns.getD j [] = x at *
      cases he : x == s with
      | true =>
        have HR : Hid (hasS ns s = true) := H2.out he
        clear H1 H2
        go_wp2_with fail
        go_ret
        exact ⟨by rw [HR.out]; rfl, rfl⟩
      | false =>
        have HR : Hid _ := H1.out he
        clear H1 H2
        go_wp2_with fail
        go_round
        case rel => exact ⟨j + 1, by omega, by go_num, HR⟩
        case measure => simp [intOf]; omega
    · have HR : Hid (hasS ns s = false) := by
        have := HF.out
        rw [List.take_of_length_le (by rw [HL.out]; omega)] at this
        exact this
      clear HF
      go_wp2_with fail
      go_ret
      exact ⟨by rw [HR.out]; rfl, rfl⟩
theorem less_any (a b : Str) (w : World) : Calls Tryz.prog 43 #[tx a, tx b] w fun e w' => e = .returned (.int .i64 (Lib.compareBytes a b)) ∧ w = w' := by
  rw [cmpB_eq]
  by_cases h : a < b
  · have h1 : Go.Op.bytesLess a b = true := by rw [less_eq]; exact decide_eq_true h
    rw [if_pos h]
    go_enter Tryz.func43, Tryz.ntmps43
    go_wp2_with fail
    go_ret
    exact ⟨rfl, rfl⟩
  · have h1 : Go.Op.bytesLess a b = false := by rw [less_eq]; exact decide_eq_false h
    rw [if_neg h]
    by_cases k : b < a
    · have h2 : (a == b) = false := by rw [beq_eq_false_iff_ne]; intro e; subst e; exact str_irrefl _ k
      rw [if_pos k]
      go_enter Tryz.func43, Tryz.ntmps43
      go_wp2_with fail
      go_ret
      exact ⟨rfl, rfl⟩
    · have h2 : (a == b) = true := by rw [beq_iff_eq]; exact str_eq h k
      rw [if_neg k]
      go_enter Tryz.func43, Tryz.ntmps43
      go_wp2_with fail
      go_ret
      exact ⟨rfl, rfl⟩
theorem Ps.new (w : World) (p : Pr) : Ps (w.alloc (.cells #[tx p.1, tx p.2] 43)) (some ⟨w.heap.size, 0, none⟩) 1 [p] := by
  have h := Box.new w p
  refine ⟨rfl, fun _ => ⟨_, 0, rfl, fun j hj => ?_⟩⟩
  obtain rfl : j = 0 := by omega
  exact ⟨h.c0, h.c1⟩
theorem filter_take {l : List Pr} {f : Pr → Bool} {j : Nat} (hj : j < l.length) : (l.take (j + 1)).filter f = (l.take j).filter f ++ (if f (l.getD j ([], [])) = true then [l.getD j ([], [])] else []) := by
  rw [List.take_succ_eq_append_getElem hj, List.filter_append, getD_at hj]
  congr 1
  by_cases h : f l[j] = true
  · simp [h]
  · simp [h]
def keptUp (l : List Pr) (ns : List Str) (j : Nat) : List Pr := (l.take j).filter fun p => ns.contains p.1
def leftUp (l : List Pr) (ns : List Str) (j : Nat) : List Pr := (l.take j).filter fun p => !decide (p.1 = nm) && !ns.contains p.1
set_option maxHeartbeats 2000000 in
theorem refKeep_any (xa : Option Addr) (n c : Nat) (l : List Pr) (ya : Option Addr) (m d : Nat) (ns : List Str) (w : World) (hn : n ≤ 100000) (hm : m ≤ 9223372036854775807) (hx : Ps w xa n l) (hy : Ss w ya m ns) :
    Calls Tryz.prog 18 #[.slice xa n c, .slice ya m d] w fun e w' => ∃ v, e = .returned v ∧ Own w' w.heap.size v (fKeep l ns) ∧ Below w.heap.size w w' := by
  obtain ⟨hlen, hcell⟩ := hx
  have HL : Hid (l.length = n) := hlen
  clear hlen
  go_enter Tryz.func18, Tryz.ntmps18
  go_wp2_with fail
  go_loopw [6, 5] (fun i u W => ∃ (j : Nat) (v : Value) (out : List Pr), j ≤ n ∧ i = .int .i64 j ∧ v = u ∧ Own W w.heap.size v out ∧ Hid (out = keptUp l ns j) ∧ out.length ≤ j ∧ Below w.heap.size w W) (fun i _ _ => n - (intOf i).toNat)
  case atStart => exact ⟨0, _, [], by omega, rfl, rfl, Own.none _ _, rfl, by simp, Below.refl _ _⟩
  case round =>
    obtain ⟨j, v, out, hj, rfl, rfl, O, HO, hol, hb⟩ := hrel
    by_cases hlt : j < n
    · obtain ⟨b, off, rfl, hc⟩ := hcell (by omega)
      obtain ⟨c0, c1⟩ := hc j hlt
      have k0 := (hb.cell (p := ⟨b, off + j * 2, none⟩) (World.block_lt_of_cell? _ _ c0)).trans c0
      have k1 := (hb.cell (p := ⟨b, off + j * 2 + 1, none⟩) (World.block_lt_of_cell? _ _ c1)).trans c1
      have hlt' : j < l.length := by rw [HL.out]; exact hlt
      have HF : Hid _ := filter_take (f := fun p => ns.contains p.1) hlt'
      have hin := fun s => refIn_any ya m d ns s wr hm (hy.later hb)
      clear hc hcell c0 c1 hlt'
      generalize l.getD j ([], []) = p at *
      obtain ⟨p1, p2⟩ := p
      dsimp only at *
      have hin1 := hin p1
      clear hin
      cases hq : hasS ns p1 with
      | false =>
        rw [hq] at hin1
        have HR : Hid (out = keptUp l ns (j + 1)) := by
          show _ = _
          unfold hasS at hq
          unfold keptUp
          rw [HF.out, HO.out]
          simp only [hq, Bool.false_eq_true, if_false, List.append_nil]
          rfl
        clear HF HO hq
        go_wp2_with fail
        refine hin1.mono ?_
        rintro e w1 ⟨rfl, rfl⟩
        go_wp2_with fail
        go_roundw
        case rel => exact ⟨j + 1, v, out, by omega, by go_num, rfl, O, HR, by omega, hb⟩
        case measure => simp [intOf]; omega
      | true =>
        rw [hq] at hin1
        have HR : Hid (out ++ [(p1, p2)] = keptUp l ns (j + 1)) := by
          show _ = _
          unfold hasS at hq
          unfold keptUp
          rw [HF.out, HO.out]
          simp only [hq, if_true]
          rfl
        clear HF HO hq
        have hO2 := O.later (bal (Below.refl _ _) (.cells #[tx p1, tx p2] 43))
        have hP2 := Ps.new wr (p1, p2)
        have hB2 := bal hb (.cells #[tx p1, tx p2] 43)
        go_wp2_with fail
        refine hin1.mono ?_
        rintro e w1 ⟨rfl, rfl⟩
        go_wp2_with (at_builtin; go_must (refine wp_app rfl _ _ rfl w.heap.size v out [(p1, p2)] _ 1 1 rfl rfl hO2 hP2 hB2 (Nat.le_refl _) (by omega) ?_; intro v2 w2 o2 b2))
        go_roundw
        case rel => exact ⟨j + 1, v2, _, by omega, by go_num, rfl, o2, HR, by simp; omega, b2⟩
        case measure => simp [intOf]; omega
    · have HR : Hid (out = fKeep l ns) := by show _ = _; rw [HO.out]; unfold keptUp fKeep; rw [List.take_of_length_le (by rw [HL.out]; omega)]
      clear HO
      rw [HR.out] at O
      go_wp2_with fail
      go_ret
      exact ⟨v, rfl, O, hb⟩
end Go.Proofs.YtldlhpokkidmlaaGreatDoor
