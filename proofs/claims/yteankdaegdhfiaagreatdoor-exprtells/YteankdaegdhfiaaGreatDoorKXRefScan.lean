/- Texts that the others lean on. -/
import Derived.Test.YteankdaegdhfiaaGreatDoorKXRefTok
import Derived.Test.YteankdaegdhfiaaGreatDoorKMX
namespace Go.Proofs.YteankdaegdhfiaaGreatDoor
open Go.RowKit
theorem bl_of {c : UInt8} : blB c = (decide (c.toNat = 32) || decide (c.toNat = 9)) := by
 unfold blB
 rw [Bool.eq_iff_iff]
 simp
 constructor
 ·
  rintro (rfl | rfl)
  ·
   exact Or.inl rfl
  ·
   exact Or.inr rfl
 ·
  rintro (h | h)
  ·
   exact Or.inl (UInt8.toNat_inj.1 h)
  ·
   exact Or.inr (UInt8.toNat_inj.1 h)
set_option maxHeartbeats 8000000 in
set_option maxRecDepth 20000 in
theorem refScan_any (s : Str) (w : World) (hs : s.length ≤ 1000) : Calls Tryz.prog 39 #[tx s] w fun e w' => ∃ v, e = .returned (.tuple #[v, .int .i64 (scP s), .int .i64 (scE s)]) ∧ OwnT w' w.heap.size v (scL s) ∧ Below w.heap.size w w' := by
 obtain ⟨i0, hi, hz0, hz1, hz2⟩ := info_parts36
 by_cases hb : 600 < s.length
 ·
  obtain ⟨e1, e2, e3⟩ := sc_big hb
  rw [e1, e2, e3]
  have hb' : (600 : Int) < s.length := by omega
  clear hb e1 e2 e3
  go_enter Tryz.func39, Tryz.ntmps39
  go_wp2
  go_ret3
  exact ⟨_, rfl, OwnT.nil _ _, Below.refl _ _⟩
 ·
  have hb' : ¬ (600 : Int) < s.length := by omega
  have HB : Hid (∀ p, sc s = .inl p → scE s = 70 ∧ scP s = p ∧ scL s = []) := fun p => sc_bad (s := s) (p := p) hb
  have HG : Hid (∀ l, sc s = .inr l → scE s = 0 ∧ scP s = 0 ∧ scL s = l ++ [tEnd s.length]) := fun l => sc_ok (s := s) (l := l) hb
  have hl : s.length ≤ 600 := by omega
  clear hb
  go_enter Tryz.func39, Tryz.ntmps39
  go_wp2_with fail
  go_loopw [6, 5] (fun t u wr => ∃ (i : Nat) (l : List Tk) (n cap : Nat) (ao : Option Addr), t = .int .i64 i ∧ u = .slice ao n cap ∧ Hid (l.length = n) ∧ i ≤ s.length ∧ n ≤ i ∧ OwnT wr w.heap.size (.slice ao n cap) l ∧ Hid (sc s = pre l (scanG s.length (lead (s.drop i)))) ∧ Below w.heap.size w wr) (fun t _ _ => s.length - (intOf t).toNat)
  case atStart => exact ⟨0, [], 0, 0, none, rfl, rfl, rfl, by omega, by omega, OwnT.nil _ _, by show _ = _; rw [pre_nil]; rfl, Below.refl _ _⟩
  case round =>
   obtain ⟨i, l, n, cap, ao, rfl, rfl, HLN, his, hni, ho, HR, hb⟩ := hrel
   by_cases hlt : i < s.length
   ·
    have hbk := ba_lt hlt
    have HC : Hid (s[i] = (⟨s.toArray⟩ : ByteArray)[i]'hbk) := rfl
    have hne : s.drop i ≠ [] := by rw [List.drop_eq_getElem_cons hlt]; exact List.cons_ne_nil _ _
    have hdl : (s.drop i).length = s.length - i := List.length_drop
    cases hbl : blB ((⟨s.toArray⟩ : ByteArray)[i]'hbk) with
    | true =>
     have HN : Hid (sc s = pre l (scanG s.length (lead (s.drop (i + 1))))) := by
      show _ = _
      rw [HR.out, List.drop_eq_getElem_cons hlt, lead_blank (by rw [HC.out]; exact hbl)]
     rw [bl_of, Bool.or_eq_true, decide_eq_true_iff, decide_eq_true_iff] at hbl
     clear HR HC hne hdl HB HG
     by_cases h32 : (((⟨s.toArray⟩ : ByteArray)[i]'hbk).toNat : Int) = 32
     ·
      have h32' : ((((⟨s.toArray⟩ : ByteArray)[i]'hbk).toNat : Int) == 32) = true := beq_iff_eq.2 h32
      clear hbl h32
      go_wp2
      go_roundw
      case rel => exact ⟨i + 1, l, n, cap, ao, by go_num, rfl, HLN, by omega, by omega, ho, HN, hb⟩
      case measure => simp [intOf]; omega
     ·
      have h32' : ((((⟨s.toArray⟩ : ByteArray)[i]'hbk).toNat : Int) == 32) = false := beq_eq_false_iff_ne.2 h32
      have h9' : ((((⟨s.toArray⟩ : ByteArray)[i]'hbk).toNat : Int) == 9) = true := by rw [beq_iff_eq]; omega
      clear hbl h32
      go_wp2
      go_roundw
      case rel => exact ⟨i + 1, l, n, cap, ao, by go_num, rfl, HLN, by omega, by omega, ho, HN, hb⟩
      case measure => simp [intOf]; omega
    | false =>
     have HL : lead (s.drop i) = s.drop i := by
      rw [List.drop_eq_getElem_cons hlt]
      exact lead_cons (by rw [HC.out]; exact hbl)
     rw [bl_of, Bool.or_eq_false_iff, decide_eq_false_iff_not, decide_eq_false_iff_not] at hbl
     have h32' : ((((⟨s.toArray⟩ : ByteArray)[i]'hbk).toNat : Int) == 32) = false := by rw [beq_eq_false_iff_ne]; omega
     have h9' : ((((⟨s.toArray⟩ : ByteArray)[i]'hbk).toNat : Int) == 9) = false := by rw [beq_eq_false_iff_ne]; omega
     have hex : (⟨s.toArray⟩ : ByteArray).extract i s.length = ⟨(s.drop i).toArray⟩ := ex_tail s i
     have hil : (i : Int) ≤ s.length := by omega
     have htk := refToken_any (s.drop i) wr (by omega) (by omega)
     have HBAD : Hid (tok (s.drop i) = none → scE s = 70 ∧ scP s = (i : Nat) ∧ scL s = []) := fun h => by
      have := HB.out i (by rw [HR.out, HL, scanG_none hne h, hdl, show s.length - (s.length - i) = i by omega]; rfl)
      exact this
     have HOK : Hid (∀ x k, tok (s.drop i) = some (x, k) → 1 ≤ k ∧ i + k ≤ s.length ∧ sc s = pre (l ++ [x.put (i : Nat)]) (scanG s.length (lead (s.drop (i + k))))) := fun x k h => by
      obtain ⟨k1, k2, _, _⟩ := tok_facts hne h
      refine ⟨k1, by omega, ?_⟩
      rw [HR.out, HL, scanG_some hne h k1, pre_push, hdl, show s.length - (s.length - i) = i by omega, List.drop_drop]
     clear hbl HR HC HL hne hdl HB HG
     generalize s.drop i = r at *
     go_wp2_with fail
     refine htk.mono ?_
     rintro e w1 ⟨x, k, rfl, hT, hb1⟩
     have hbo := Below.chain hb hb1
     rcases hT with hT | ⟨hT, rfl⟩
     ·
      obtain ⟨k1, k2, k3⟩ := HOK.out x k hT
      have HN : Hid _ := k3
      have hk0 : ((k : Int) == 0) = false := by rw [beq_eq_false_iff_ne]; omega
      clear HOK HBAD hT k3 htk
      have hbx2 := BoxT.new (w1.alloc (.cells (tcs (x.put (i : Nat))) 39)) (x.put (i : Nat))
      have ho1 := ((ho.later hb1).later (bal (Below.refl _ _) (.cells (tcs (x.put (i : Nat))) 39))).later (bal (Below.refl _ _) (.cells (tcs (x.put (i : Nat))) 39))
      have hbo2 := bal (bal hbo (.cells (tcs (x.put (i : Nat))) 39)) (.cells (tcs (x.put (i : Nat))) 39)
      have hsz : (w1.alloc (.cells (tcs (x.put (i : Nat))) 39)).heap.size = w1.heap.size + 1 := by simp
      rw [hsz] at hbx2
      clear hsz
      simp only [Tk.put] at ho1 hbo2 hbx2 HN
      go_wp2_with (at_builtin; go_must (refine wpList_append_own _ rfl _ _ 37 rfl w.heap.size 39 i0 (.agg #[.int .i64 0, .int .i64 0, .string ⟨#[]⟩, .bool false, .int .i64 0, .int .i64 0]) 6 56 Tryz.underlying37 hi hz0 hz1 hz2 zero36 (by decide) _ _ _ rfl ho1 ⟨w1.heap.size + 1, 0, none⟩ 1 1 (cellsT [⟨x.k, (i : Nat), x.t, x.o, x.n, x.d⟩]) rfl rfl ?hnews (cellsT_one _) ?h63 ?hby ?hbs ?_))
      case hnews => exact six_cells hbx2
      case h63 => have := HLN.out; unfold maxLen; omega
      case hby => have := HLN.out; omega
      case hbs => exact hbo2.size
      intro v' w2 ho4 hg4 _
      have ho5 := OwnT.snoc ho4
      have hbo3 := hbo2.grown hg4 hbo2.size (fun k hk => (World.ownsRow.lt ho1 k hk).1)
      obtain ⟨ao', cap', rfl⟩ := ho5.form
      have HLN' : Hid ((l ++ [(⟨x.k, (i : Nat), x.t, x.o, x.n, x.d⟩ : Tk)]).length = n + 1) := by show _ = _; rw [List.length_append, HLN.out]; rfl
      rw [HLN'.out] at ho5 ⊢
      clear ho4 hbx2 ho1 hbo2
      go_wp2
      go_roundw
      case rel => exact ⟨i + k, _, n + 1, cap', ao', by go_num, rfl, HLN', by omega, by omega, ho5, HN, hbo3⟩
      case measure => simp [intOf]; omega
     ·
      have HBB : Hid _ := HBAD.out hT
      clear HOK HBAD hT htk
      go_wp2
      go_ret3
      exact ⟨_, by rw [HBB.out.1, HBB.out.2.1]; rfl, by rw [HBB.out.2.2]; exact OwnT.nil _ _, bal hbo _⟩
   ·
    have HG' := HG.out l (by rw [HR.out, List.drop_of_length_le (by omega)]; show pre l (scanG _ []) = _; rw [scanG_nil]; simp [pre])
    have HGG : Hid (scE s = 0 ∧ scP s = 0 ∧ scL s = l ++ [tEnd s.length]) := HG'
    clear HG' HR HG HB
    have ho1 := ho.later (bal (Below.refl _ _) (.cells (tcs (tEnd s.length)) 39))
    have hbo := bal hb (.cells (tcs (tEnd s.length)) 39)
    have hbx := BoxT.new wr (tEnd s.length)
    simp only [tEnd] at ho1 hbo hbx
    go_wp2_with (at_builtin; go_must (refine wpList_append_own _ rfl _ _ 37 rfl w.heap.size 39 i0 (.agg #[.int .i64 0, .int .i64 0, .string ⟨#[]⟩, .bool false, .int .i64 0, .int .i64 0]) 6 56 Tryz.underlying37 hi hz0 hz1 hz2 zero36 (by decide) _ _ _ rfl ho1 ⟨wr.heap.size, 0, none⟩ 1 1 (cellsT [tEnd s.length]) rfl rfl ?hnews (cellsT_one _) ?h63 ?hby ?hbs ?_))
    case hnews => exact six_cells hbx
    case h63 => have := HLN.out; unfold maxLen; omega
    case hby => have := HLN.out; omega
    case hbs => exact hbo.size
    intro v' w2 ho4 hg4 _
    have ho5 := OwnT.snoc ho4
    have hbo2 := hbo.grown hg4 hbo.size (fun k hk => (World.ownsRow.lt ho1 k hk).1)
    clear ho4
    go_wp2
    go_ret3
    exact ⟨v', by rw [HGG.out.1, HGG.out.2.1]; rfl, by rw [HGG.out.2.2]; exact ho5, hbo2⟩
end Go.Proofs.YteankdaegdhfiaaGreatDoor
