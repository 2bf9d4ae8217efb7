/- Whole; the reference's Line: for every line. -/
import Derived.Test.YtcbjhfnlhpallaaGreatDoorERefW
import Derived.Test.YtcbjhfnlhpallaaGreatDoorBaseG
import Derived.Test.YtcbjhfnlhpallaaGreatDoorBaseS
namespace Go.Proofs.YtcbjhfnlhpallaaGreatDoor
open Go.RowKit

/-! ### Whole -/
def wI (s : Str) : Int := if tmOk s = true then (Fx.rd s : Int) else -1
theorem wI_no {s : Str} (h : tmOk s = false) : wI s = -1 := by unfold wI; rw [h]; rfl
theorem wI_yes {s : Str} (h : tmOk s = true) : wI s = (Fx.rd s : Int) := by unfold wI; rw [if_pos h]
theorem tmOk_len {s : Str} (h : s.length < 1 ∨ 7 < s.length) : tmOk s = false := by
  unfold tmOk Fx.fDigits
  rcases h with h | h
  · rw [decide_eq_false (show ¬ 1 ≤ s.length by omega)]; rfl
  · rw [decide_eq_false (show ¬ s.length ≤ 7 by omega)]; simp
theorem tmOk_dg {s : Str} (h : Fx.dgs s = false) : tmOk s = false := by
  unfold tmOk Fx.fDigits
  rw [h]; simp
theorem tmOk_head {s : Str} (h1 : 1 < s.length) (h : s.head? = some 48) : tmOk s = false := by
  unfold tmOk
  rw [decide_eq_false (show ¬ s.length = 1 by omega), decide_eq_false (show ¬ s.head? ≠ some 48 by simp [h])]
  simp
theorem tmOk_yes {s : Str} (h1 : 1 ≤ s.length) (h7 : s.length ≤ 7) (hd : Fx.dgs s = true) (hh : s.length = 1 ∨ s.head? ≠ some 48) : tmOk s = true := by
  unfold tmOk Fx.fDigits
  rw [hd, decide_eq_true h1, decide_eq_true h7]
  simpa using hh
theorem dgs_part {s : Str} {k : Nat} (hk : k ≤ s.length) (hd : Fx.dgs (s.take k) = true) (he : k = s.length ∨ ∃ h : k < s.length, Fx.isDg s[k] = false) : (k = s.length ∧ Fx.dgs s = true) ∨ (k ≠ s.length ∧ Fx.dgs s = false) := by
  rcases he with e | ⟨h1, h2⟩
  · subst e
    rw [List.take_of_length_le (Nat.le_refl _)] at hd
    exact Or.inl ⟨rfl, hd⟩
  · refine Or.inr ⟨by omega, ?_⟩
    unfold Fx.dgs
    exact List.all_eq_false.2 ⟨s[k], List.getElem_mem h1, by simp [h2]⟩
set_option maxHeartbeats 4000000 in
theorem whole_any (s : Str) (w : World) (hs : s.length ≤ 1000) : Calls Tryz.prog 42 #[tx s, .int .i64 7] w fun e w' => e = .returned (.int .i64 (wI s)) ∧ w = w' := by
  have hdg := Fx.rdig_any s w hs
  by_cases h1 : s.length < 1
  · have HW : Hid (wI s = -1) := wI_no (tmOk_len (Or.inl h1))
    have h1' : (s.length : Int) < 1 := by omega
    generalize wI s = V at *
    clear h1 hdg
    go_enter Tryz.func42, Tryz.ntmps42
    go_wp2
    go_ret
    exact ⟨by rw [HW.out]; rfl, rfl⟩
  · have h1' : ¬ (s.length : Int) < 1 := by omega
    by_cases h7 : 7 < s.length
    · have HW : Hid (wI s = -1) := wI_no (tmOk_len (Or.inr h7))
      have h7' : (7 : Int) < s.length := by omega
      generalize wI s = V at *
      clear h1 h7 hdg
      go_enter Tryz.func42, Tryz.ntmps42
      go_wp2
      go_ret
      exact ⟨by rw [HW.out]; rfl, rfl⟩
    · have h7' : ¬ (7 : Int) < s.length := by omega
      have h0 : 0 < s.length := by omega
      have hb0 := Fx.ba_lt h0
      have key : ∀ (hn : s.length = 1 ∨ s.head? ≠ some 48) (k : Nat) (hd : Fx.dgs s = true), tmOk s = true := fun hn _ hd => tmOk_yes (by omega) (by omega) hd hn
      by_cases hl : 1 < s.length
      · have hl' : (1 : Int) < s.length := by omega
        by_cases hz : (((⟨s.toArray⟩ : ByteArray)[0]'hb0).toNat : Int) = 48
        · have HW : Hid (wI s = -1) := wI_no (tmOk_head hl (Fx.head_is h0 hz))
          generalize wI s = V at *
          clear h1 h7 hdg hl key
          go_enter Tryz.func42, Tryz.ntmps42
          go_wp2
          go_ret
          exact ⟨by rw [HW.out]; rfl, rfl⟩
        · have hn : s.length = 1 ∨ s.head? ≠ some 48 := Or.inr (Fx.head_isnt h0 hz)
          have KEY : Hid (Fx.dgs s = true → tmOk s = true) := key hn 0
          clear h1 h7 hl key hn
          go_enter Tryz.func42, Tryz.ntmps42
          go_wp2_with fail
          refine hdg.mono ?_
          rintro e w1 ⟨⟨k, hk, hd, he, rfl⟩, rfl⟩
          have hp := dgs_part hk hd he
          clear hd he
          rcases hp with ⟨hke, hd⟩ | ⟨hke, hd⟩
          · have hke' : ((k : Int) != (s.length : Int)) = false := by rw [bne_eq_false_iff_eq]; omega
            have HD : Hid (Fx.dgs s = true) := hd
            have HW : Hid (wI s = (Fx.rd s : Int)) := wI_yes (KEY.out hd)
            clear hd hke KEY hdg
            go_wp2_with fail
            go_loop [5, 6] (fun n i => ∃ a : Nat, a ≤ s.length ∧ i = .int .i64 a ∧ n = .int .i64 (Fx.rd (s.take a) : Nat)) (fun _ i => s.length - (intOf i).toNat)
            case atStart => exact ⟨0, by omega, rfl, by rw [List.take_zero]; rfl⟩
            case round =>
              obtain ⟨a, hak, rfl, rfl⟩ := hrel
              have hr0 := Fx.rd_bound (t := s) (k := s.length) (Nat.le_refl _) (Fx.dgs_take HD.out _) hak
              have hr : Fx.rd (s.take a) < 10000000000000 := by have := Fx.ten13 (show a ≤ 13 by omega); omega
              clear hr0
              by_cases hlt : a < s.length
              · have hbk := Fx.ba_lt hlt
                obtain ⟨hc1, hc2⟩ := Fx.dgs_at (t := s) (k := s.length) (Nat.le_refl _) (Fx.dgs_take HD.out _) hlt
                have HS : Hid _ := Fx.rd_next hlt
                generalize Fx.rd (s.take a) = r at *
                go_wp2_with fail
                go_round
                case rel => exact ⟨a + 1, by omega, by go_num, by rw [HS.out]; go_num⟩
                case measure => simp [intOf]; omega
              · have HT : Hid (Fx.rd (s.take a) = Fx.rd s) := by show _ = _; rw [List.take_of_length_le (by omega)]
                generalize Fx.rd (s.take a) = r at *
                go_wp2_with fail
                go_ret
                exact ⟨by rw [HW.out, ← HT.out]; rfl, rfl⟩
          · have hke' : ((k : Int) != (s.length : Int)) = true := by rw [bne_iff_ne]; omega
            have HW : Hid (wI s = -1) := wI_no (tmOk_dg hd)
            clear hd hke KEY hdg
            go_wp2_with fail
            go_ret
            exact ⟨by rw [HW.out]; rfl, rfl⟩
      · have hl' : ¬ (1 : Int) < s.length := by omega
        have hn : s.length = 1 ∨ s.head? ≠ some 48 := Or.inl (by omega)
        have KEY : Hid (Fx.dgs s = true → tmOk s = true) := key hn 0
        clear h1 h7 hl key hn hb0
        go_enter Tryz.func42, Tryz.ntmps42
        go_wp2_with fail
        refine hdg.mono ?_
        rintro e w1 ⟨⟨k, hk, hd, he, rfl⟩, rfl⟩
        have hp := dgs_part hk hd he
        clear hd he
        rcases hp with ⟨hke, hd⟩ | ⟨hke, hd⟩
        · have hke' : ((k : Int) != (s.length : Int)) = false := by rw [bne_eq_false_iff_eq]; omega
          have HD : Hid (Fx.dgs s = true) := hd
          have HW : Hid (wI s = (Fx.rd s : Int)) := wI_yes (KEY.out hd)
          clear hd hke KEY hdg
          go_wp2_with fail
          go_loop [5, 6] (fun n i => ∃ a : Nat, a ≤ s.length ∧ i = .int .i64 a ∧ n = .int .i64 (Fx.rd (s.take a) : Nat)) (fun _ i => s.length - (intOf i).toNat)
          case atStart => exact ⟨0, by omega, rfl, by rw [List.take_zero]; rfl⟩
          case round =>
            obtain ⟨a, hak, rfl, rfl⟩ := hrel
            have hr0 := Fx.rd_bound (t := s) (k := s.length) (Nat.le_refl _) (Fx.dgs_take HD.out _) hak
            have hr : Fx.rd (s.take a) < 10000000000000 := by have := Fx.ten13 (show a ≤ 13 by omega); omega
            clear hr0
            by_cases hlt : a < s.length
            · have hbk := Fx.ba_lt hlt
              obtain ⟨hc1, hc2⟩ := Fx.dgs_at (t := s) (k := s.length) (Nat.le_refl _) (Fx.dgs_take HD.out _) hlt
              have HS : Hid _ := Fx.rd_next hlt
              generalize Fx.rd (s.take a) = r at *
              go_wp2_with fail
              go_round
              case rel => exact ⟨a + 1, by omega, by go_num, by rw [HS.out]; go_num⟩
              case measure => simp [intOf]; omega
            · have HT : Hid (Fx.rd (s.take a) = Fx.rd s) := by show _ = _; rw [List.take_of_length_le (by omega)]
              generalize Fx.rd (s.take a) = r at *
              go_wp2_with fail
              go_ret
              exact ⟨by rw [HW.out, ← HT.out]; rfl, rfl⟩
        · have hke' : ((k : Int) != (s.length : Int)) = true := by rw [bne_iff_ne]; omega
          have HW : Hid (wI s = -1) := wI_no (tmOk_dg hd)
          clear hd hke KEY hdg
          go_wp2_with fail
          go_ret
          exact ⟨by rw [HW.out]; rfl, rfl⟩

/-! ### Line -/
theorem wI_time {c : Str} : ((tm c).isSome = true → 0 ≤ wI c ∧ wI c ≤ 1000000 ∧ (((tm c).getD 0 : Nat) : Int) = wI c) ∧ ((tm c).isSome = false → wI c < 0 ∨ 1000000 < wI c) := by
  constructor
  · intro h
    cases e : tm c with
    | none => rw [e] at h; cases h
    | some u =>
      obtain ⟨h1, h2, h3⟩ := tm_some e
      rw [wI_yes h1]
      simp
      omega
  · intro h
    cases e : tmOk c with
    | false => rw [wI_no e]; exact Or.inl (by omega)
    | true =>
      rw [wI_yes e]
      refine Or.inr ?_
      rcases Nat.lt_or_ge 1000000 (Fx.rd c) with h1 | h1
      · omega
      · exfalso
        unfold tm at h
        rw [if_pos ⟨e, h1⟩] at h
        cases h
set_option maxRecDepth 20000 in
set_option maxHeartbeats 8000000 in
theorem refLine_any (s : Str) (w : World) (hs : s.length ≤ 100000) :
    Calls Tryz.prog 13 #[tx s] w fun e w' => ∃ v, e = .returned (.tuple #[.agg #[v, .bool (lineS s).ov, .int .i64 (lineS s).n, .int .i64 (lineS s).t, .bool (lineS s).has, .int .i64 (lineS s).kind], .int .i64 (lineE s)]) ∧ Own w' w.heap.size v (lineS s).ls ∧ Below w.heap.size w w' := by
  have hb0 : Below w.heap.size w (w.alloc (.cells #[.slice none 0 0, .bool false, .int .i64 0, .int .i64 0, .bool false, .int .i64 0] 34)) := bal (Below.refl _ _) _
  have hx : BoxX (w.alloc (.cells #[.slice none 0 0, .bool false, .int .i64 0, .int .i64 0, .bool false, .int .i64 0] 34)) w.heap.size (.slice none 0 0) scr0 := BoxX.new w _ scr0
  by_cases hl : 300 < s.length
  · have HE : Hid (lineE s = 11) := by show _ = _; unfold lineE; rw [if_pos hl]
    have HS : Hid (lineS s = scr0) := by show _ = _; unfold lineS; rw [HE.out]; rfl
    have hl' : (300 : Int) < s.length := by omega
    generalize lineE s = E at *
    generalize lineS s = X at *
    clear hl
    go_enter Tryz.func13, Tryz.ntmps13
    go_wp2
    exact bodyPost_ret (v := .tuple #[.agg #[.slice none 0 0, .bool false, .int .i64 0, .int .i64 0, .bool false, .int .i64 0], .int .i64 11]) (by simp [results, Tryz.results13, go_sem]) rfl ⟨.slice none 0 0, by rw [HE.out, HS.out]; rfl, by rw [HS.out]; exact Own.none _ _, hb0⟩
  · have HE0 : Hid (lineE s = wE (wd s)) := by show _ = _; unfold lineE; rw [if_neg hl]
    have HS0 : Hid (lineS s = if lineE s = 0 then wS (wd s) else scr0) := rfl
    have hl' : ¬ (300 : Int) < s.length := by omega
    have hwd := refWords_any s (w.alloc (.cells #[.slice none 0 0, .bool false, .int .i64 0, .int .i64 0, .bool false, .int .i64 0] 34)) (by omega)
    have hsub : ∀ a ∈ wd s, a.length ≤ s.length := fun a ha => wd_sub ha
    generalize lineE s = E at *
    generalize lineS s = X at *
    generalize wd s = W at *
    by_cases h2 : W.length = 2
    · obtain ⟨a, b, rfl⟩ := two_of h2
      have ha := hsub a (by simp)
      have hb := hsub b (by simp)
      clear h2 hsub
      have hps := fun W => refParse_any a W (by omega)
      have hpf := parse_fit a (by omega)
      have hpc := parse_count a
      have hhm := fun (W : World) (xa : Option Addr) (cp : Nat) (h : Ps W xa (parseL a).length (parseL a)) => refGet_any xa (parseL a).length cp (parseL a) nm W (by omega) h
      have hlm : (fGet (parseL a) nm).length ≤ 9223372036854775807 := by
        by_cases h : fGet (parseL a) nm = []
        · rw [h]; simp
        · exact (hpf _ (get_mem h)).2
      have hnm := fun W => refName_any (fGet (parseL a) nm) W hlm
      have hnp := fun W => Fx.rparse_any b W (by omega)
      have HW : Hid (wE [a, b] = if fSet a = true then Fx.pe (Fx.fParse b) else 30) := rfl
      have HX : Hid (wS [a, b] = ⟨parseL a, Fx.po (Fx.fParse b), Fx.pn (Fx.fParse b), 0, false, 0⟩) := rfl
      have HF : Hid (fSet a = (okParse a && fName (fGet (parseL a) nm))) := rfl
      clear hlm hpf hl
      generalize wE [a, b] = E' at *
      generalize wS [a, b] = X' at *
      generalize fSet a = fs at *
      generalize okParse a = ok at *
      generalize parseL a = L at *
      generalize fName (fGet L nm) = hm at *
      generalize fGet L nm = mn at *
      generalize Fx.fParse b = N at *
      cases ok with
      | false =>
        have HE : Hid (E = 30) := by show _ = _; rw [HE0.out, HW.out, HF.out]; simp
        have HS : Hid (X = scr0) := by show _ = _; rw [HS0.out, HE.out]; rfl
        clear HE0 HS0 HW HX HF hhm hnp hnm
        go_enter Tryz.func13, Tryz.ntmps13
        go_wp2_with fail
        generalize w.alloc (.cells _ 34) = w0 at *
        refine hwd.mono ?_
        rintro e w1 ⟨v1, rfl, ho1, hb1⟩
        obtain ⟨ao, cap, rfl, hss, _, _⟩ := ho1.slice
        obtain ⟨_, hss⟩ := hss
        obtain ⟨bk, off, rfl, hcs⟩ := hss (by simp)
        have k0 : w1.cell? ⟨bk, off, none⟩ = some (tx a) := hcs 0 (by simp)
        have k1 : w1.cell? ⟨bk, off + 1, none⟩ = some (tx b) := hcs 1 (by simp)
        clear hcs hss
        have B1 := Below.chain hb0 hb1
        have hx1 := hx.later hb1
        clear hx ho1
        go_wp2_with fail
        refine (hps _).mono ?_
        rintro e w2 ⟨v2, rfl, ho2, hb2⟩
        have B2 := Below.chain B1 hb2
        have hx2 := hx1.later hb2
        have m1 := (hb2.cell (p := ⟨bk, off + 1, none⟩) (World.block_lt_of_cell? _ _ k1)).trans k1
        obtain ⟨c0, c1, c2, c3, c4, c5, f0, f1, f2, f3, f4, f5⟩ := hx2
        obtain ⟨la, lc, rfl, hpl⟩ := ho2.fitN
        go_wp2
        exact bodyPost_ret (v := .tuple #[.agg #[.slice none 0 0, .bool false, .int .i64 0, .int .i64 0, .bool false, .int .i64 0], .int .i64 30]) (by simp [results, Tryz.results13, go_sem, c0, c1, c2, c3, c4, c5]) rfl ⟨.slice none 0 0, by rw [HE.out, HS.out]; rfl, by rw [HS.out]; exact Own.none _ _, below6 B2 (Nat.le_refl _) _ _ _ _ _ _⟩
      | true =>
        cases hm with
        | false =>
          have HE : Hid (E = 30) := by show _ = _; rw [HE0.out, HW.out, HF.out]; simp
          have HS : Hid (X = scr0) := by show _ = _; rw [HS0.out, HE.out]; rfl
          clear HE0 HS0 HW HX HF hnp
          go_enter Tryz.func13, Tryz.ntmps13
          go_wp2_with fail
          generalize w.alloc (.cells _ 34) = w0 at *
          refine hwd.mono ?_
          rintro e w1 ⟨v1, rfl, ho1, hb1⟩
          obtain ⟨ao, cap, rfl, hss, _, _⟩ := ho1.slice
          obtain ⟨_, hss⟩ := hss
          obtain ⟨bk, off, rfl, hcs⟩ := hss (by simp)
          have k0 : w1.cell? ⟨bk, off, none⟩ = some (tx a) := hcs 0 (by simp)
          have k1 : w1.cell? ⟨bk, off + 1, none⟩ = some (tx b) := hcs 1 (by simp)
          clear hcs hss
          have B1 := Below.chain hb0 hb1
          have hx1 := hx.later hb1
          clear hx ho1
          go_wp2_with fail
          refine (hps _).mono ?_
          rintro e w2 ⟨v2, rfl, ho2, hb2⟩
          have B2 := Below.chain B1 hb2
          have hx2 := hx1.later hb2
          have m1 := (hb2.cell (p := ⟨bk, off + 1, none⟩) (World.block_lt_of_cell? _ _ k1)).trans k1
          obtain ⟨la, lc, rfl, hpl⟩ := ho2.fitN
          go_wp2_with fail
          refine (hhm _ _ _ hpl).mono ?_
          rintro e w3 ⟨rfl, rfl⟩
          go_wp2_with fail
          refine (hnm _).mono ?_
          rintro e w3 ⟨rfl, rfl⟩
          obtain ⟨c0, c1, c2, c3, c4, c5, f0, f1, f2, f3, f4, f5⟩ := hx2
          go_wp2
          exact bodyPost_ret (v := .tuple #[.agg #[.slice none 0 0, .bool false, .int .i64 0, .int .i64 0, .bool false, .int .i64 0], .int .i64 30]) (by simp [results, Tryz.results13, go_sem, c0, c1, c2, c3, c4, c5]) rfl ⟨.slice none 0 0, by rw [HE.out, HS.out]; rfl, by rw [HS.out]; exact Own.none _ _, below6 B2 (Nat.le_refl _) _ _ _ _ _ _⟩
        | true =>
          cases N with
          | none =>
            have HE : Hid (E = 20) := by show _ = _; rw [HE0.out, HW.out, HF.out]; simp [Fx.pe]
            have HS : Hid (X = scr0) := by show _ = _; rw [HS0.out, HE.out]; rfl
            clear HE0 HS0 HW HX HF
            simp only [Fx.po, Fx.pn, Fx.pk, Option.isSome] at hnp
            go_enter Tryz.func13, Tryz.ntmps13
            go_wp2_with fail
            generalize w.alloc (.cells _ 34) = w0 at *
            refine hwd.mono ?_
            rintro e w1 ⟨v1, rfl, ho1, hb1⟩
            obtain ⟨ao, cap, rfl, hss, _, _⟩ := ho1.slice
            obtain ⟨_, hss⟩ := hss
            obtain ⟨bk, off, rfl, hcs⟩ := hss (by simp)
            have k0 : w1.cell? ⟨bk, off, none⟩ = some (tx a) := hcs 0 (by simp)
            have k1 : w1.cell? ⟨bk, off + 1, none⟩ = some (tx b) := hcs 1 (by simp)
            clear hcs hss
            have B1 := Below.chain hb0 hb1
            have hx1 := hx.later hb1
            clear hx ho1
            go_wp2_with fail
            refine (hps _).mono ?_
            rintro e w2 ⟨v2, rfl, ho2, hb2⟩
            have B2 := Below.chain B1 hb2
            have hx2 := hx1.later hb2
            have m1 := (hb2.cell (p := ⟨bk, off + 1, none⟩) (World.block_lt_of_cell? _ _ k1)).trans k1
            obtain ⟨la, lc, rfl, hpl⟩ := ho2.fitN
            go_wp2_with fail
            refine (hhm _ _ _ hpl).mono ?_
            rintro e w3 ⟨rfl, rfl⟩
            go_wp2_with fail
            refine (hnm _).mono ?_
            rintro e w3 ⟨rfl, rfl⟩
            go_wp2_with fail
            refine (hnp _).mono ?_
            rintro e w4 ⟨rfl, hb4⟩
            have B4 := Below.chain B2 hb4
            have hx4 := hx2.later hb4
            have ho4 := ho2.later hb4
            have hx5 := hx4.later (bal (Below.refl _ w4) (.cells #[.bool false, .int .i64 0] 32))
            have B5 := bal B4 (.cells #[.bool false, .int .i64 0] 32)
            obtain ⟨c0, c1, c2, c3, c4, c5, f0, f1, f2, f3, f4, f5⟩ := hx5
            go_wp2
            exact bodyPost_ret (v := .tuple #[.agg #[.slice none 0 0, .bool false, .int .i64 0, .int .i64 0, .bool false, .int .i64 0], .int .i64 20]) (by simp [results, Tryz.results13, go_sem, c0, c1, c2, c3, c4, c5]) rfl ⟨.slice none 0 0, by rw [HE.out, HS.out]; rfl, by rw [HS.out]; exact Own.none _ _, below6 B5 (Nat.le_refl _) _ _ _ _ _ _⟩
          | some num =>
            simp only [Fx.po, Fx.pn, Fx.pk, Option.isSome] at hnp HX
            generalize Fx.ov num = nv at *
            generalize Fx.nn num = nn at *
            have HE : Hid (E = 0) := by show _ = _; rw [HE0.out, HW.out, HF.out]; simp [Fx.pe]
            have HS : Hid (X = ⟨L, nv, nn, 0, false, 0⟩) := by show _ = _; rw [HS0.out, HE.out]; rw [if_pos rfl, HX.out]
            clear HE0 HS0 HW HX HF
            go_enter Tryz.func13, Tryz.ntmps13
            go_wp2_with fail
            generalize w.alloc (.cells _ 34) = w0 at *
            refine hwd.mono ?_
            rintro e w1 ⟨v1, rfl, ho1, hb1⟩
            obtain ⟨ao, cap, rfl, hss, _, _⟩ := ho1.slice
            obtain ⟨_, hss⟩ := hss
            obtain ⟨bk, off, rfl, hcs⟩ := hss (by simp)
            have k0 : w1.cell? ⟨bk, off, none⟩ = some (tx a) := hcs 0 (by simp)
            have k1 : w1.cell? ⟨bk, off + 1, none⟩ = some (tx b) := hcs 1 (by simp)
            clear hcs hss
            have B1 := Below.chain hb0 hb1
            have hx1 := hx.later hb1
            clear hx ho1
            go_wp2_with fail
            refine (hps _).mono ?_
            rintro e w2 ⟨v2, rfl, ho2, hb2⟩
            have B2 := Below.chain B1 hb2
            have hx2 := hx1.later hb2
            have m1 := (hb2.cell (p := ⟨bk, off + 1, none⟩) (World.block_lt_of_cell? _ _ k1)).trans k1
            obtain ⟨la, lc, rfl, hpl⟩ := ho2.fitN
            go_wp2_with fail
            refine (hhm _ _ _ hpl).mono ?_
            rintro e w3 ⟨rfl, rfl⟩
            go_wp2_with fail
            refine (hnm _).mono ?_
            rintro e w3 ⟨rfl, rfl⟩
            go_wp2_with fail
            refine (hnp _).mono ?_
            rintro e w4 ⟨rfl, hb4⟩
            have B4 := Below.chain B2 hb4
            have hx4 := hx2.later hb4
            have ho4 := ho2.later hb4
            have B6 := bal (bal B4 (.cells #[.bool nv, .int .i64 nn] 32)) (.cells #[.slice la L.length lc, .bool nv, .int .i64 nn, .int .i64 0, .bool false, .int .i64 0] 34)
            have hbb := bal (bal (Below.refl _ w4) (.cells #[.bool nv, .int .i64 nn] 32)) (.cells #[.slice la L.length lc, .bool nv, .int .i64 nn, .int .i64 0, .bool false, .int .i64 0] 34)
            have hx6 := hx4.later hbb
            have ho6 := ho4.later hbb
            have hxb : BoxX ((w4.alloc (.cells #[.bool nv, .int .i64 nn] 32)).alloc (.cells #[.slice la L.length lc, .bool nv, .int .i64 nn, .int .i64 0, .bool false, .int .i64 0] 34)) (w4.heap.size + 1) (.slice la L.length lc) ⟨L, nv, nn, 0, false, 0⟩ := by constructor <;> simp [go_sem]
            have hxs : w4.heap.size ≤ w4.heap.size + 1 := by omega
            have hx4l := hx4.lt
            have hob := fun b e => (World.ownsRow.lt ho4 b e)
            go_upto_region 17 with fail
            generalize (w4.alloc (.cells #[.bool nv, .int .i64 nn] 32)).alloc (.cells #[.slice la L.length lc, .bool nv, .int .i64 nn, .int .i64 0, .bool false, .int .i64 0] 34) = w6 at *
            generalize w4.heap.size + 1 = xb at *
            have hle : w.heap.size ≤ xb := by have := B4.size; omega
            have hne : w.heap.size ≠ xb := by omega
            have hne' : xb ≠ w.heap.size := by omega
            obtain ⟨d0, d1, d2, d3, d4, d5, g0, g1, g2, g3, g4, g5⟩ := hxb
            obtain ⟨c0, c1, c2, c3, c4, c5, f0, f1, f2, f3, f4, f5⟩ := hx6
            go_wp2
            exact bodyPost_ret (v := .tuple #[.agg #[.slice la L.length lc, .bool nv, .int .i64 nn, .int .i64 0, .bool false, .int .i64 0], .int .i64 0]) (by simp [results, Tryz.results13, go_sem, c0, c1, c2, c3, c4, c5]) rfl ⟨_, by rw [HE.out, HS.out], by rw [HS.out]; exact (ho6.kept (grown6 _ _ _ _ _ _ _ _) (fun b e e2 => by injection e2 with e2; have := (hob b e).1; have := B1.size; have := hx1.lt; omega)).base (Nat.le_trans B1.size (Nat.le_refl _)), below6 B6 (Nat.le_refl _) _ _ _ _ _ _⟩
    · by_cases h3 : W.length = 3
      · obtain ⟨a, b, c, rfl⟩ := three_of h3
        have ha := hsub a (by simp)
        have hb := hsub b (by simp)
        have hc := hsub c (by simp)
        clear h2 h3 hsub
        have hps := fun W => refParse_any a W (by omega)
        have hpf := parse_fit a (by omega)
        have hpc := parse_count a
        have hhm := fun (W : World) (xa : Option Addr) (cp : Nat) (h : Ps W xa (parseL a).length (parseL a)) => refGet_any xa (parseL a).length cp (parseL a) nm W (by omega) h
        have hlm : (fGet (parseL a) nm).length ≤ 9223372036854775807 := by
          by_cases h : fGet (parseL a) nm = []
          · rw [h]; simp
          · exact (hpf _ (get_mem h)).2
        have hnm := fun W => refName_any (fGet (parseL a) nm) W hlm
        have hnp := fun W => Fx.rparse_any b W (by omega)
        have htm := fun W => whole_any c W (by omega)
        have hti := wI_time (c := c)
        have HW : Hid (wE [a, b, c] = if fSet a = true then (if Fx.pe (Fx.fParse b) = 0 then (if (tm c).isSome = true then 0 else 152) else 20) else 30) := rfl
        have HX : Hid (wS [a, b, c] = ⟨parseL a, Fx.po (Fx.fParse b), Fx.pn (Fx.fParse b), (((tm c).getD 0 : Nat) : Int), true, 0⟩) := rfl
        have HF : Hid (fSet a = (okParse a && fName (fGet (parseL a) nm))) := rfl
        clear hlm hpf hl
        generalize wE [a, b, c] = E' at *
        generalize wS [a, b, c] = X' at *
        generalize fSet a = fs at *
        generalize okParse a = ok at *
        generalize parseL a = L at *
        generalize fName (fGet L nm) = hm at *
        generalize fGet L nm = mn at *
        generalize Fx.fParse b = N at *
        generalize (((tm c).getD 0 : Nat) : Int) = tv at *
        generalize (tm c).isSome = ts at *
        generalize wI c = V at *
        cases ok with
        | false =>
          have HE : Hid (E = 30) := by show _ = _; rw [HE0.out, HW.out, HF.out]; simp
          have HS : Hid (X = scr0) := by show _ = _; rw [HS0.out, HE.out]; rfl
          clear HE0 HS0 HW HX HF hhm hnp hnm htm hti
          go_enter Tryz.func13, Tryz.ntmps13
          go_wp2_with fail
          generalize w.alloc (.cells _ 34) = w0 at *
          refine hwd.mono ?_
          rintro e w1 ⟨v1, rfl, ho1, hb1⟩
          obtain ⟨ao, cap, rfl, hss, _, _⟩ := ho1.slice
          obtain ⟨_, hss⟩ := hss
          obtain ⟨bk, off, rfl, hcs⟩ := hss (by simp)
          have k0 : w1.cell? ⟨bk, off, none⟩ = some (tx a) := hcs 0 (by simp)
          have k1 : w1.cell? ⟨bk, off + 1, none⟩ = some (tx b) := hcs 1 (by simp)
          have k2 : w1.cell? ⟨bk, off + 2, none⟩ = some (tx c) := hcs 2 (by simp)
          clear hcs hss
          have B1 := Below.chain hb0 hb1
          have hx1 := hx.later hb1
          clear hx ho1
          go_wp2_with fail
          refine (hps _).mono ?_
          rintro e w2 ⟨v2, rfl, ho2, hb2⟩
          have B2 := Below.chain B1 hb2
          have hx2 := hx1.later hb2
          have m1 := (hb2.cell (p := ⟨bk, off + 1, none⟩) (World.block_lt_of_cell? _ _ k1)).trans k1
          have m2 := (hb2.cell (p := ⟨bk, off + 2, none⟩) (World.block_lt_of_cell? _ _ k2)).trans k2
          obtain ⟨c0, c1, c2, c3, c4, c5, f0, f1, f2, f3, f4, f5⟩ := hx2
          obtain ⟨la, lc, rfl, hpl⟩ := ho2.fitN
          go_wp2
          exact bodyPost_ret (v := .tuple #[.agg #[.slice none 0 0, .bool false, .int .i64 0, .int .i64 0, .bool false, .int .i64 0], .int .i64 30]) (by simp [results, Tryz.results13, go_sem, c0, c1, c2, c3, c4, c5]) rfl ⟨.slice none 0 0, by rw [HE.out, HS.out]; rfl, by rw [HS.out]; exact Own.none _ _, below6 B2 (Nat.le_refl _) _ _ _ _ _ _⟩
        | true =>
          cases hm with
          | false =>
            have HE : Hid (E = 30) := by show _ = _; rw [HE0.out, HW.out, HF.out]; simp
            have HS : Hid (X = scr0) := by show _ = _; rw [HS0.out, HE.out]; rfl
            clear HE0 HS0 HW HX HF hnp htm hti
            go_enter Tryz.func13, Tryz.ntmps13
            go_wp2_with fail
            generalize w.alloc (.cells _ 34) = w0 at *
            refine hwd.mono ?_
            rintro e w1 ⟨v1, rfl, ho1, hb1⟩
            obtain ⟨ao, cap, rfl, hss, _, _⟩ := ho1.slice
            obtain ⟨_, hss⟩ := hss
            obtain ⟨bk, off, rfl, hcs⟩ := hss (by simp)
            have k0 : w1.cell? ⟨bk, off, none⟩ = some (tx a) := hcs 0 (by simp)
            have k1 : w1.cell? ⟨bk, off + 1, none⟩ = some (tx b) := hcs 1 (by simp)
            have k2 : w1.cell? ⟨bk, off + 2, none⟩ = some (tx c) := hcs 2 (by simp)
            clear hcs hss
            have B1 := Below.chain hb0 hb1
            have hx1 := hx.later hb1
            clear hx ho1
            go_wp2_with fail
            refine (hps _).mono ?_
            rintro e w2 ⟨v2, rfl, ho2, hb2⟩
            have B2 := Below.chain B1 hb2
            have hx2 := hx1.later hb2
            have m1 := (hb2.cell (p := ⟨bk, off + 1, none⟩) (World.block_lt_of_cell? _ _ k1)).trans k1
            have m2 := (hb2.cell (p := ⟨bk, off + 2, none⟩) (World.block_lt_of_cell? _ _ k2)).trans k2
            obtain ⟨la, lc, rfl, hpl⟩ := ho2.fitN
            go_wp2_with fail
            refine (hhm _ _ _ hpl).mono ?_
            rintro e w3 ⟨rfl, rfl⟩
            go_wp2_with fail
            refine (hnm _).mono ?_
            rintro e w3 ⟨rfl, rfl⟩
            obtain ⟨c0, c1, c2, c3, c4, c5, f0, f1, f2, f3, f4, f5⟩ := hx2
            go_wp2
            exact bodyPost_ret (v := .tuple #[.agg #[.slice none 0 0, .bool false, .int .i64 0, .int .i64 0, .bool false, .int .i64 0], .int .i64 30]) (by simp [results, Tryz.results13, go_sem, c0, c1, c2, c3, c4, c5]) rfl ⟨.slice none 0 0, by rw [HE.out, HS.out]; rfl, by rw [HS.out]; exact Own.none _ _, below6 B2 (Nat.le_refl _) _ _ _ _ _ _⟩
          | true =>
            cases N with
            | none =>
              have HE : Hid (E = 20) := by show _ = _; rw [HE0.out, HW.out, HF.out]; simp [Fx.pe]
              have HS : Hid (X = scr0) := by show _ = _; rw [HS0.out, HE.out]; rfl
              clear HE0 HS0 HW HX HF htm hti
              simp only [Fx.po, Fx.pn, Fx.pk, Option.isSome] at hnp
              go_enter Tryz.func13, Tryz.ntmps13
              go_wp2_with fail
              generalize w.alloc (.cells _ 34) = w0 at *
              refine hwd.mono ?_
              rintro e w1 ⟨v1, rfl, ho1, hb1⟩
              obtain ⟨ao, cap, rfl, hss, _, _⟩ := ho1.slice
              obtain ⟨_, hss⟩ := hss
              obtain ⟨bk, off, rfl, hcs⟩ := hss (by simp)
              have k0 : w1.cell? ⟨bk, off, none⟩ = some (tx a) := hcs 0 (by simp)
              have k1 : w1.cell? ⟨bk, off + 1, none⟩ = some (tx b) := hcs 1 (by simp)
              have k2 : w1.cell? ⟨bk, off + 2, none⟩ = some (tx c) := hcs 2 (by simp)
              clear hcs hss
              have B1 := Below.chain hb0 hb1
              have hx1 := hx.later hb1
              clear hx ho1
              go_wp2_with fail
              refine (hps _).mono ?_
              rintro e w2 ⟨v2, rfl, ho2, hb2⟩
              have B2 := Below.chain B1 hb2
              have hx2 := hx1.later hb2
              have m1 := (hb2.cell (p := ⟨bk, off + 1, none⟩) (World.block_lt_of_cell? _ _ k1)).trans k1
              have m2 := (hb2.cell (p := ⟨bk, off + 2, none⟩) (World.block_lt_of_cell? _ _ k2)).trans k2
              obtain ⟨la, lc, rfl, hpl⟩ := ho2.fitN
              go_wp2_with fail
              refine (hhm _ _ _ hpl).mono ?_
              rintro e w3 ⟨rfl, rfl⟩
              go_wp2_with fail
              refine (hnm _).mono ?_
              rintro e w3 ⟨rfl, rfl⟩
              go_wp2_with fail
              refine (hnp _).mono ?_
              rintro e w4 ⟨rfl, hb4⟩
              have B4 := Below.chain B2 hb4
              have hx4 := hx2.later hb4
              have ho4 := ho2.later hb4
              have r2 := (hb4.cell (p := ⟨bk, off + 2, none⟩) (World.block_lt_of_cell? _ _ m2)).trans m2
              have hx5 := hx4.later (bal (Below.refl _ w4) (.cells #[.bool false, .int .i64 0] 32))
              have B5 := bal B4 (.cells #[.bool false, .int .i64 0] 32)
              obtain ⟨c0, c1, c2, c3, c4, c5, f0, f1, f2, f3, f4, f5⟩ := hx5
              go_wp2
              exact bodyPost_ret (v := .tuple #[.agg #[.slice none 0 0, .bool false, .int .i64 0, .int .i64 0, .bool false, .int .i64 0], .int .i64 20]) (by simp [results, Tryz.results13, go_sem, c0, c1, c2, c3, c4, c5]) rfl ⟨.slice none 0 0, by rw [HE.out, HS.out]; rfl, by rw [HS.out]; exact Own.none _ _, below6 B5 (Nat.le_refl _) _ _ _ _ _ _⟩
            | some num =>
              simp only [Fx.po, Fx.pn, Fx.pk, Option.isSome] at hnp HX
              generalize Fx.ov num = nv at *
              generalize Fx.nn num = nn at *
              cases ts with
              | false =>
                have hv := hti.2 rfl
                clear hti
                have HE : Hid (E = 152) := by show _ = _; rw [HE0.out, HW.out, HF.out]; simp [Fx.pe]
                have HS : Hid (X = scr0) := by show _ = _; rw [HS0.out, HE.out]; rfl
                clear HE0 HS0 HW HX HF
                rcases (show V < 0 ∨ (¬ V < 0 ∧ (1000000 : Int) < V) by omega) with hv | ⟨hv, hv2⟩
                · go_enter Tryz.func13, Tryz.ntmps13
                  go_wp2_with fail
                  generalize w.alloc (.cells _ 34) = w0 at *
                  refine hwd.mono ?_
                  rintro e w1 ⟨v1, rfl, ho1, hb1⟩
                  obtain ⟨ao, cap, rfl, hss, _, _⟩ := ho1.slice
                  obtain ⟨_, hss⟩ := hss
                  obtain ⟨bk, off, rfl, hcs⟩ := hss (by simp)
                  have k0 : w1.cell? ⟨bk, off, none⟩ = some (tx a) := hcs 0 (by simp)
                  have k1 : w1.cell? ⟨bk, off + 1, none⟩ = some (tx b) := hcs 1 (by simp)
                  have k2 : w1.cell? ⟨bk, off + 2, none⟩ = some (tx c) := hcs 2 (by simp)
                  clear hcs hss
                  have B1 := Below.chain hb0 hb1
                  have hx1 := hx.later hb1
                  clear hx ho1
                  go_wp2_with fail
                  refine (hps _).mono ?_
                  rintro e w2 ⟨v2, rfl, ho2, hb2⟩
                  have B2 := Below.chain B1 hb2
                  have hx2 := hx1.later hb2
                  have m1 := (hb2.cell (p := ⟨bk, off + 1, none⟩) (World.block_lt_of_cell? _ _ k1)).trans k1
                  have m2 := (hb2.cell (p := ⟨bk, off + 2, none⟩) (World.block_lt_of_cell? _ _ k2)).trans k2
                  obtain ⟨la, lc, rfl, hpl⟩ := ho2.fitN
                  go_wp2_with fail
                  refine (hhm _ _ _ hpl).mono ?_
                  rintro e w3 ⟨rfl, rfl⟩
                  go_wp2_with fail
                  refine (hnm _).mono ?_
                  rintro e w3 ⟨rfl, rfl⟩
                  go_wp2_with fail
                  refine (hnp _).mono ?_
                  rintro e w4 ⟨rfl, hb4⟩
                  have B4 := Below.chain B2 hb4
                  have hx4 := hx2.later hb4
                  have ho4 := ho2.later hb4
                  have r2 := (hb4.cell (p := ⟨bk, off + 2, none⟩) (World.block_lt_of_cell? _ _ m2)).trans m2
                  have B6 := bal (bal B4 (.cells #[.bool nv, .int .i64 nn] 32)) (.cells #[.slice la L.length lc, .bool nv, .int .i64 nn, .int .i64 0, .bool false, .int .i64 0] 34)
                  have hbb := bal (bal (Below.refl _ w4) (.cells #[.bool nv, .int .i64 nn] 32)) (.cells #[.slice la L.length lc, .bool nv, .int .i64 nn, .int .i64 0, .bool false, .int .i64 0] 34)
                  have hx6 := hx4.later hbb
                  have ho6 := ho4.later hbb
                  have hxb : BoxX ((w4.alloc (.cells #[.bool nv, .int .i64 nn] 32)).alloc (.cells #[.slice la L.length lc, .bool nv, .int .i64 nn, .int .i64 0, .bool false, .int .i64 0] 34)) (w4.heap.size + 1) (.slice la L.length lc) ⟨L, nv, nn, 0, false, 0⟩ := by constructor <;> simp [go_sem]
                  have hxs : w4.heap.size ≤ w4.heap.size + 1 := by omega
                  have hx4l := hx4.lt
                  have hob := fun b e => (World.ownsRow.lt ho4 b e)
                  have s2 := cell_later' r2 hbb
                  go_wp2_with fail
                  generalize (w4.alloc (.cells #[.bool nv, .int .i64 nn] 32)).alloc (.cells #[.slice la L.length lc, .bool nv, .int .i64 nn, .int .i64 0, .bool false, .int .i64 0] 34) = w6 at *
                  generalize w4.heap.size + 1 = xb at *
                  refine (htm _).mono ?_
                  rintro e w7 ⟨rfl, rfl⟩
                  have hle : w.heap.size ≤ xb := by have := B4.size; omega
                  have hne : w.heap.size ≠ xb := by omega
                  have hne' : xb ≠ w.heap.size := by omega
                  obtain ⟨d0, d1, d2, d3, d4, d5, g0, g1, g2, g3, g4, g5⟩ := hxb
                  obtain ⟨c0, c1, c2, c3, c4, c5, f0, f1, f2, f3, f4, f5⟩ := hx6
                  go_wp2
                  exact bodyPost_ret (v := .tuple #[.agg #[.slice none 0 0, .bool false, .int .i64 0, .int .i64 0, .bool false, .int .i64 0], .int .i64 152]) (by simp [results, Tryz.results13, go_sem, c0, c1, c2, c3, c4, c5]) rfl ⟨.slice none 0 0, by rw [HE.out, HS.out]; rfl, by rw [HS.out]; exact Own.none _ _, below6 ((B6.setCell (p := ⟨xb, 3, none⟩) hle _).setCell (p := ⟨xb, 4, none⟩) hle _) (Nat.le_refl _) _ _ _ _ _ _⟩
                · go_enter Tryz.func13, Tryz.ntmps13
                  go_wp2_with fail
                  generalize w.alloc (.cells _ 34) = w0 at *
                  refine hwd.mono ?_
                  rintro e w1 ⟨v1, rfl, ho1, hb1⟩
                  obtain ⟨ao, cap, rfl, hss, _, _⟩ := ho1.slice
                  obtain ⟨_, hss⟩ := hss
                  obtain ⟨bk, off, rfl, hcs⟩ := hss (by simp)
                  have k0 : w1.cell? ⟨bk, off, none⟩ = some (tx a) := hcs 0 (by simp)
                  have k1 : w1.cell? ⟨bk, off + 1, none⟩ = some (tx b) := hcs 1 (by simp)
                  have k2 : w1.cell? ⟨bk, off + 2, none⟩ = some (tx c) := hcs 2 (by simp)
                  clear hcs hss
                  have B1 := Below.chain hb0 hb1
                  have hx1 := hx.later hb1
                  clear hx ho1
                  go_wp2_with fail
                  refine (hps _).mono ?_
                  rintro e w2 ⟨v2, rfl, ho2, hb2⟩
                  have B2 := Below.chain B1 hb2
                  have hx2 := hx1.later hb2
                  have m1 := (hb2.cell (p := ⟨bk, off + 1, none⟩) (World.block_lt_of_cell? _ _ k1)).trans k1
                  have m2 := (hb2.cell (p := ⟨bk, off + 2, none⟩) (World.block_lt_of_cell? _ _ k2)).trans k2
                  obtain ⟨la, lc, rfl, hpl⟩ := ho2.fitN
                  go_wp2_with fail
                  refine (hhm _ _ _ hpl).mono ?_
                  rintro e w3 ⟨rfl, rfl⟩
                  go_wp2_with fail
                  refine (hnm _).mono ?_
                  rintro e w3 ⟨rfl, rfl⟩
                  go_wp2_with fail
                  refine (hnp _).mono ?_
                  rintro e w4 ⟨rfl, hb4⟩
                  have B4 := Below.chain B2 hb4
                  have hx4 := hx2.later hb4
                  have ho4 := ho2.later hb4
                  have r2 := (hb4.cell (p := ⟨bk, off + 2, none⟩) (World.block_lt_of_cell? _ _ m2)).trans m2
                  have B6 := bal (bal B4 (.cells #[.bool nv, .int .i64 nn] 32)) (.cells #[.slice la L.length lc, .bool nv, .int .i64 nn, .int .i64 0, .bool false, .int .i64 0] 34)
                  have hbb := bal (bal (Below.refl _ w4) (.cells #[.bool nv, .int .i64 nn] 32)) (.cells #[.slice la L.length lc, .bool nv, .int .i64 nn, .int .i64 0, .bool false, .int .i64 0] 34)
                  have hx6 := hx4.later hbb
                  have ho6 := ho4.later hbb
                  have hxb : BoxX ((w4.alloc (.cells #[.bool nv, .int .i64 nn] 32)).alloc (.cells #[.slice la L.length lc, .bool nv, .int .i64 nn, .int .i64 0, .bool false, .int .i64 0] 34)) (w4.heap.size + 1) (.slice la L.length lc) ⟨L, nv, nn, 0, false, 0⟩ := by constructor <;> simp [go_sem]
                  have hxs : w4.heap.size ≤ w4.heap.size + 1 := by omega
                  have hx4l := hx4.lt
                  have hob := fun b e => (World.ownsRow.lt ho4 b e)
                  have s2 := cell_later' r2 hbb
                  go_wp2_with fail
                  generalize (w4.alloc (.cells #[.bool nv, .int .i64 nn] 32)).alloc (.cells #[.slice la L.length lc, .bool nv, .int .i64 nn, .int .i64 0, .bool false, .int .i64 0] 34) = w6 at *
                  generalize w4.heap.size + 1 = xb at *
                  refine (htm _).mono ?_
                  rintro e w7 ⟨rfl, rfl⟩
                  have hle : w.heap.size ≤ xb := by have := B4.size; omega
                  have hne : w.heap.size ≠ xb := by omega
                  have hne' : xb ≠ w.heap.size := by omega
                  obtain ⟨d0, d1, d2, d3, d4, d5, g0, g1, g2, g3, g4, g5⟩ := hxb
                  obtain ⟨c0, c1, c2, c3, c4, c5, f0, f1, f2, f3, f4, f5⟩ := hx6
                  go_wp2
                  exact bodyPost_ret (v := .tuple #[.agg #[.slice none 0 0, .bool false, .int .i64 0, .int .i64 0, .bool false, .int .i64 0], .int .i64 152]) (by simp [results, Tryz.results13, go_sem, c0, c1, c2, c3, c4, c5]) rfl ⟨.slice none 0 0, by rw [HE.out, HS.out]; rfl, by rw [HS.out]; exact Own.none _ _, below6 ((B6.setCell (p := ⟨xb, 3, none⟩) hle _).setCell (p := ⟨xb, 4, none⟩) hle _) (Nat.le_refl _) _ _ _ _ _ _⟩
              | true =>
                obtain ⟨hv1, hv2, rfl⟩ := hti.1 rfl
                clear hti
                have hv1' : ¬ tv < 0 := by omega
                have hv2' : ¬ (1000000 : Int) < tv := by omega
                have HE : Hid (E = 0) := by show _ = _; rw [HE0.out, HW.out, HF.out]; simp [Fx.pe]
                have HS : Hid (X = ⟨L, nv, nn, tv, true, 0⟩) := by show _ = _; rw [HS0.out, HE.out]; rw [if_pos rfl, HX.out]
                clear HE0 HS0 HW HX HF
                go_enter Tryz.func13, Tryz.ntmps13
                go_wp2_with fail
                generalize w.alloc (.cells _ 34) = w0 at *
                refine hwd.mono ?_
                rintro e w1 ⟨v1, rfl, ho1, hb1⟩
                obtain ⟨ao, cap, rfl, hss, _, _⟩ := ho1.slice
                obtain ⟨_, hss⟩ := hss
                obtain ⟨bk, off, rfl, hcs⟩ := hss (by simp)
                have k0 : w1.cell? ⟨bk, off, none⟩ = some (tx a) := hcs 0 (by simp)
                have k1 : w1.cell? ⟨bk, off + 1, none⟩ = some (tx b) := hcs 1 (by simp)
                have k2 : w1.cell? ⟨bk, off + 2, none⟩ = some (tx c) := hcs 2 (by simp)
                clear hcs hss
                have B1 := Below.chain hb0 hb1
                have hx1 := hx.later hb1
                clear hx ho1
                go_wp2_with fail
                refine (hps _).mono ?_
                rintro e w2 ⟨v2, rfl, ho2, hb2⟩
                have B2 := Below.chain B1 hb2
                have hx2 := hx1.later hb2
                have m1 := (hb2.cell (p := ⟨bk, off + 1, none⟩) (World.block_lt_of_cell? _ _ k1)).trans k1
                have m2 := (hb2.cell (p := ⟨bk, off + 2, none⟩) (World.block_lt_of_cell? _ _ k2)).trans k2
                obtain ⟨la, lc, rfl, hpl⟩ := ho2.fitN
                go_wp2_with fail
                refine (hhm _ _ _ hpl).mono ?_
                rintro e w3 ⟨rfl, rfl⟩
                go_wp2_with fail
                refine (hnm _).mono ?_
                rintro e w3 ⟨rfl, rfl⟩
                go_wp2_with fail
                refine (hnp _).mono ?_
                rintro e w4 ⟨rfl, hb4⟩
                have B4 := Below.chain B2 hb4
                have hx4 := hx2.later hb4
                have ho4 := ho2.later hb4
                have r2 := (hb4.cell (p := ⟨bk, off + 2, none⟩) (World.block_lt_of_cell? _ _ m2)).trans m2
                have B6 := bal (bal B4 (.cells #[.bool nv, .int .i64 nn] 32)) (.cells #[.slice la L.length lc, .bool nv, .int .i64 nn, .int .i64 0, .bool false, .int .i64 0] 34)
                have hbb := bal (bal (Below.refl _ w4) (.cells #[.bool nv, .int .i64 nn] 32)) (.cells #[.slice la L.length lc, .bool nv, .int .i64 nn, .int .i64 0, .bool false, .int .i64 0] 34)
                have hx6 := hx4.later hbb
                have ho6 := ho4.later hbb
                have hxb : BoxX ((w4.alloc (.cells #[.bool nv, .int .i64 nn] 32)).alloc (.cells #[.slice la L.length lc, .bool nv, .int .i64 nn, .int .i64 0, .bool false, .int .i64 0] 34)) (w4.heap.size + 1) (.slice la L.length lc) ⟨L, nv, nn, 0, false, 0⟩ := by constructor <;> simp [go_sem]
                have hxs : w4.heap.size ≤ w4.heap.size + 1 := by omega
                have hx4l := hx4.lt
                have hob := fun b e => (World.ownsRow.lt ho4 b e)
                have s2 := cell_later' r2 hbb
                go_wp2_with fail
                generalize (w4.alloc (.cells #[.bool nv, .int .i64 nn] 32)).alloc (.cells #[.slice la L.length lc, .bool nv, .int .i64 nn, .int .i64 0, .bool false, .int .i64 0] 34) = w6 at *
                generalize w4.heap.size + 1 = xb at *
                refine (htm _).mono ?_
                rintro e w7 ⟨rfl, rfl⟩
                have hle : w.heap.size ≤ xb := by have := B4.size; omega
                have hne : w.heap.size ≠ xb := by omega
                have hne' : xb ≠ w.heap.size := by omega
                obtain ⟨d0, d1, d2, d3, d4, d5, g0, g1, g2, g3, g4, g5⟩ := hxb
                obtain ⟨c0, c1, c2, c3, c4, c5, f0, f1, f2, f3, f4, f5⟩ := hx6
                go_wp2
                exact bodyPost_ret (v := .tuple #[.agg #[.slice la L.length lc, .bool nv, .int .i64 nn, .int .i64 tv, .bool true, .int .i64 0], .int .i64 0]) (by simp [results, Tryz.results13, go_sem, c0, c1, c2, c3, c4, c5]) rfl ⟨_, by rw [HE.out, HS.out], by rw [HS.out]; exact (((ho6.kept (grown_set _ xb 3 _) (fun b e e2 => by injection e2 with e2; have := hob b e; omega)).kept (grown_set _ xb 4 _) (fun b e e2 => by injection e2 with e2; have := hob b e; omega)).kept (grown6 _ _ _ _ _ _ _ _) (fun b e e2 => by injection e2 with e2; have := (hob b e).1; have := B1.size; have := hx1.lt; omega)).base (Nat.le_trans B1.size (Nat.le_refl _)), below6 ((B6.setCell (p := ⟨xb, 3, none⟩) hle _).setCell (p := ⟨xb, 4, none⟩) hle _) (Nat.le_refl _) _ _ _ _ _ _⟩
      · have HE : Hid (E = 12) := by show _ = _; rw [HE0.out, wE_len h2 h3]
        have HS : Hid (X = scr0) := by show _ = _; rw [HS0.out, HE.out]; rfl
        by_cases h1 : W.length < 2
        · have h2' : (W.length : Int) < 2 := by omega
          clear HE0 HS0 h2 h3 hsub h1 hl
          go_enter Tryz.func13, Tryz.ntmps13
          go_wp2_with fail
          generalize w.alloc (.cells _ 34) = w0 at *
          refine hwd.mono ?_
          rintro e w1 ⟨v1, rfl, ho1, hb1⟩
          obtain ⟨ao, cap, rfl, hss, _, _⟩ := ho1.slice
          obtain ⟨c0, c1, c2, c3, c4, c5, f0, f1, f2, f3, f4, f5⟩ := hx.later hb1
          go_wp2
          exact bodyPost_ret (v := .tuple #[.agg #[.slice none 0 0, .bool false, .int .i64 0, .int .i64 0, .bool false, .int .i64 0], .int .i64 12]) (by simp [results, Tryz.results13, go_sem, c0, c1, c2, c3, c4, c5]) rfl ⟨.slice none 0 0, by rw [HE.out, HS.out]; rfl, by rw [HS.out]; exact Own.none _ _, below6 (Below.chain hb0 hb1) (Nat.le_refl _) _ _ _ _ _ _⟩
        · have h2' : ¬ (W.length : Int) < 2 := by omega
          have h3' : (3 : Int) < W.length := by omega
          clear HE0 HS0 h2 h3 hsub h1 hl
          go_enter Tryz.func13, Tryz.ntmps13
          go_wp2_with fail
          generalize w.alloc (.cells _ 34) = w0 at *
          refine hwd.mono ?_
          rintro e w1 ⟨v1, rfl, ho1, hb1⟩
          obtain ⟨ao, cap, rfl, hss, _, _⟩ := ho1.slice
          obtain ⟨c0, c1, c2, c3, c4, c5, f0, f1, f2, f3, f4, f5⟩ := hx.later hb1
          go_wp2
          exact bodyPost_ret (v := .tuple #[.agg #[.slice none 0 0, .bool false, .int .i64 0, .int .i64 0, .bool false, .int .i64 0], .int .i64 12]) (by simp [results, Tryz.results13, go_sem, c0, c1, c2, c3, c4, c5]) rfl ⟨.slice none 0 0, by rw [HE.out, HS.out]; rfl, by rw [HS.out]; exact Own.none _ _, below6 (Below.chain hb0 hb1) (Nat.le_refl _) _ _ _ _ _ _⟩
end Go.Proofs.YtcbjhfnlhpallaaGreatDoor
