/- Scan: for every text. -/
import Derived.Test.YtajbjbnfklllkaaGreatDoorXFirst
import Derived.BigQuiet
namespace Go.Proofs.YtajbjbnfklllkaaGreatDoor
open Go.RowKit

def lenOf : Value → Nat
  | .string b => b.size
  | _ => 0
theorem lenOf_tx (s : Str) : lenOf (tx s) = s.length := ba_size s
theorem tok_y {r : Str} (hr : r ≠ []) : (tok r = none ∧ (tok r).getD (tk0, 0) = (tk0, 0)) ∨ ∃ x k, tok r = some (x, k) ∧ (tok r).getD (tk0, 0) = (x, k) ∧ 1 ≤ k ∧ k ≤ r.length := by
  cases h : tok r with
  | none => exact Or.inl ⟨rfl, rfl⟩
  | some y =>
    obtain ⟨x, k⟩ := y
    obtain ⟨h1, h2, _, _⟩ := tok_facts hr h
    exact Or.inr ⟨x, k, rfl, rfl, h1, h2⟩
theorem OwnT.form {w : World} {base : Nat} {v : Value} {l : List Tk} (h : OwnT w base v l) : ∃ ao cap, v = .slice ao l.length cap := by
  obtain ⟨ao, cap, e, _⟩ := h.slice
  exact ⟨ao, cap, e⟩
set_option maxHeartbeats 4000000 in
theorem scan_any (s : Str) (w : World) (hs : s.length ≤ 1000000) (he : Ev w) : Calls Tryz.prog 9 #[tx s] w fun e w' => ∃ v, e = .returned (.tuple #[v, .int .i64 (scP s), .int .i64 (scE s)]) ∧ OwnT w' w.heap.size v (scL s) ∧ Below w.heap.size w w' := by
  obtain ⟨i0, hi, hz0, hz1, hz2⟩ := info_parts36
  by_cases hb : 600 < s.length
  · obtain ⟨e1, e2, e3⟩ := sc_big hb
    rw [e1, e2, e3]
    have hb' : (600 : Int) < s.length := by omega
    clear hb e1 e2 e3
    go_enter Tryz.func9, Tryz.ntmps9
    go_wp2
    go_ret3
    exact ⟨_, rfl, OwnT.nil _ _, Below.refl _ _⟩
  · have hb' : ¬ (600 : Int) < s.length := by omega
    have hbad := fun p => sc_bad (s := s) (p := p) hb
    have hgood := fun l => sc_ok (s := s) (l := l) hb
    have HB : Hid (∀ p, sc s = .inl p → scE s = 70 ∧ scP s = p ∧ scL s = []) := hbad
    have HG : Hid (∀ l, sc s = .inr l → scE s = 0 ∧ scP s = 0 ∧ scL s = l ++ [tEnd s.length]) := hgood
    have hl : s.length ≤ 600 := by omega
    clear hbad hgood hb
    have hu := unblanked_any s (w.alloc (.cells #[] 36))
    have hll := lead_le s
    have HS : Hid (sc s = scanG s.length (lead s)) := rfl
    generalize lead s = r0 at *
    go_enter Tryz.func9, Tryz.ntmps9
    go_wp2_with fail
    refine hu.mono ?_
    rintro e w0 ⟨rfl, hb0⟩
    have hbw : Below w.heap.size w w0 := Below.chain (bal (Below.refl _ _) _) hb0
    have hown := (OwnT.made w).later hb0
    clear hb0 hu
    go_wp2_with fail
    go_loopw [6, 5] (fun t u wr => ∃ (r : Str) (l : List Tk) (n cap : Nat) (ao : Option Addr), t = tx r ∧ u = .slice ao n cap ∧ Hid (l.length = n) ∧ r.length ≤ s.length ∧ n + r.length ≤ s.length ∧ OwnT wr w.heap.size (.slice ao n cap) l ∧ Hid (sc s = pre l (scanG s.length r)) ∧ Below w.heap.size w wr) (fun t _ _ => lenOf t)
    case atStart => exact ⟨r0, [], 0, 0, _, rfl, rfl, rfl, hll, by omega, hown, by show _ = _; rw [pre_nil]; exact HS.out, hbw⟩
    case round =>
      clear hbw hown
      obtain ⟨r, l, n, cap, ao, rfl, rfl, HLN, hrs, hns, ho, HR, hb⟩ := hrel
      by_cases hr0 : r = []
      · subst hr0
        have HG' := HG.out l (by rw [HR.out, scanG_nil]; simp [pre])
        have HGG : Hid (scE s = 0 ∧ scP s = 0 ∧ scL s = l ++ [tEnd s.length]) := HG'
        clear HG' HR HG HB HS
        have ho1 := ho.later (bal (Below.refl _ _) (.cells (tcs (tEnd s.length)) 36))
        have hbo := bal hb (.cells (tcs (tEnd s.length)) 36)
        have hbx := BoxT.new wr (tEnd s.length)
        simp only [tEnd] at ho1 hbo hbx
        go_wp2_with (at_builtin; go_must (refine wpList_append_own _ rfl _ _ 23 rfl w.heap.size 36 i0 (.agg #[.int .i64 0, .int .i64 0, .string ⟨#[]⟩, .bool false, .int .i64 0, .int .i64 0]) 6 56 Tryz.underlying23 hi hz0 hz1 hz2 zero36 (by decide) _ _ _ rfl ho1 ⟨wr.heap.size, 0, none⟩ 1 1 (cellsT [tEnd s.length]) rfl rfl ?hnews (cellsT_one _) ?h63 ?hby ?hbs ?_))
        case hnews => exact six_cells hbx
        case h63 => have := HLN.out; unfold maxLen; omega
        case hby => have := HLN.out; omega
        case hbs => exact hbo.size
        intro v' w2 ho4 hg4 _
        have ho5 := OwnT.snoc ho4
        have hbo2 := hbo.grown hg4 hbo.size (fun k hk => (World.ownsRow.lt ho1 k hk).1)
        clear ho4
        go_wp2
        go_ret3
        exact ⟨v', by rw [HGG.out.1, HGG.out.2.1]; rfl, by rw [HGG.out.2.2]; exact ho5, hbo2⟩
      · have hpos : 0 < r.length := List.length_pos_iff.2 hr0
        have hf := first_any r wr (by omega) hpos (he.later hb)
        have hr1 : (r != []) = true := by rw [bne_iff_ne]; exact hr0
        have hr2 : (r == []) = false := by rw [beq_eq_false_iff_ne]; exact hr0
        have hr3 : r.isEmpty = false := by cases r with | nil => exact absurd rfl hr0 | cons c q => rfl
        rcases tok_y hr0 with ⟨t1, t2⟩ | ⟨x, k, t1, t2, k1, k2⟩
        · have HB' := HB.out _ (by rw [HR.out, scanG_none hr0 t1]; rfl)
          have HBB : Hid (scE s = 70 ∧ scP s = ((s.length - r.length : Nat) : Int) ∧ scL s = []) := HB'
          rw [rt_of t2] at hf
          clear HB' HR HG HB HS t1 t2 hr0
          have hsub : ((s.length - r.length : Nat) : Int) = (s.length : Int) - r.length := by omega
          rw [hsub] at HBB
          clear hsub
          go_wp2_with fail
          refine hf.mono ?_
          rintro e w1 ⟨rfl, hb1⟩
          have hbo := Below.chain hb hb1
          go_upto_region 9 with fail
          go_quiet (fail)
          go_wp2
          go_ret3
          exact ⟨_, by rw [HBB.out.1, HBB.out.2.1]; rfl, by rw [HBB.out.2.2]; exact OwnT.nil _ _, Fx.below_drewN (bal hbo _) _⟩
        · have HN : Hid (sc s = pre (l ++ [x.put ((s.length : Int) - r.length)]) (scanG s.length (lead (r.drop k)))) := by
            show _ = _
            rw [HR.out, scanG_some hr0 t1 k1, pre_push, show ((s.length - r.length : Nat) : Int) = (s.length : Int) - r.length by omega]
          rw [rt_of t2] at hf
          have hex : (⟨r.toArray⟩ : ByteArray).extract k r.length = ⟨(r.drop k).toArray⟩ := ex_tail r k
          have hun := fun W => unblanked_any (r.drop k) W
          have hle := lead_le (r.drop k)
          rw [List.length_drop] at hle
          have hk0 : ((k : Int) == 0) = false := by rw [beq_eq_false_iff_ne]; omega
          have hk1 : (k : Int) ≤ r.length := by omega
          clear HR HG HB HS t1 t2 hr0
          generalize lead (r.drop k) = q at *
          generalize r.drop k = rd at *
          go_wp2_with fail
          refine hf.mono ?_
          rintro e w1 ⟨rfl, hb1⟩
          have hb2 := bal (Below.refl w1.heap.size w1) (.cells (tcs (x.put ((s.length : Int) - r.length))) 36)
          have hbx := (BoxT.new w1 (x.put ((s.length : Int) - r.length))).later (bal (Below.refl _ _) (.cells (tcs (x.put ((s.length : Int) - r.length))) 36))
          have hbx2 := BoxT.new (w1.alloc (.cells (tcs (x.put ((s.length : Int) - r.length))) 36)) (x.put ((s.length : Int) - r.length))
          have ho1 := ((ho.later hb1).later hb2).later (bal (Below.refl _ _) (.cells (tcs (x.put ((s.length : Int) - r.length))) 36))
          have hbo := bal (bal (Below.chain hb hb1) (.cells (tcs (x.put ((s.length : Int) - r.length))) 36)) (.cells (tcs (x.put ((s.length : Int) - r.length))) 36)
          have hsz : (w1.alloc (.cells (tcs (x.put ((s.length : Int) - r.length))) 36)).heap.size = w1.heap.size + 1 := by simp
          rw [hsz] at hbx2
          clear hsz
          simp only [Tk.put] at ho1 hbo hbx hbx2 HN hb2
          go_wp2_with (at_builtin; go_must (refine wpList_append_own _ rfl _ _ 23 rfl w.heap.size 36 i0 (.agg #[.int .i64 0, .int .i64 0, .string ⟨#[]⟩, .bool false, .int .i64 0, .int .i64 0]) 6 56 Tryz.underlying23 hi hz0 hz1 hz2 zero36 (by decide) _ _ _ rfl ho1 ⟨w1.heap.size + 1, 0, none⟩ 1 1 (cellsT [⟨x.k, (s.length : Int) - r.length, x.t, x.o, x.n, x.d⟩]) rfl rfl ?hnews (cellsT_one _) ?h63 ?hby ?hbs ?_))
          case hnews => exact six_cells hbx2
          case h63 => have := HLN.out; unfold maxLen; omega
          case hby => have := HLN.out; omega
          case hbs => exact hbo.size
          intro v' w2 ho4 hg4 _
          have ho5 := OwnT.snoc ho4
          have hbo2 := hbo.grown hg4 hbo.size (fun k hk => (World.ownsRow.lt ho1 k hk).1)
          obtain ⟨ao', cap', rfl⟩ := ho5.form
          have HLN' : Hid ((l ++ [(⟨x.k, (s.length : Int) - r.length, x.t, x.o, x.n, x.d⟩ : Tk)]).length = n + 1) := by show _ = _; rw [List.length_append, HLN.out]; rfl
          rw [HLN'.out] at ho5 ⊢
          clear ho4 hbx hbx2 ho1 hbo hb2
          go_wp2_with fail
          refine (hun _).mono ?_
          rintro e w3 ⟨rfl, hb3⟩
          have ho6 := ho5.later hb3
          have hbo3 := Below.chain hbo2 hb3
          go_wp2
          go_roundw
          case rel => exact ⟨q, l ++ [⟨x.k, (s.length : Int) - r.length, x.t, x.o, x.n, x.d⟩], n + 1, cap', ao', rfl, rfl, HLN', by omega, by omega, ho6, HN, hbo3⟩
          case measure => rw [lenOf_tx, lenOf_tx]; omega
end Go.Proofs.YtajbjbnfklllkaaGreatDoor
