/- Texts that the others lean on. -/
import Derived.Test.YteankdaegdhfiaaGreatDoorKYPd4
namespace Go.Proofs.YteankdaegdhfiaaGreatDoor
open Go.RowKit
def errOf (R : Rc) (w : World) : Int := match w.cell? ⟨R.b, 3, none⟩ with
 | some (.int _ i) => i
 | _ => 0
/-- How many rounds are left: none behind a failure. -/
def mesN (R : Rc) (w : World) : Nat := if errOf R w = 0 then R.n + 2 - posOf R w else 0
theorem Pd.pos {R : Rc} {w : World} {i : Nat} {dp fp fy : Int} (h : Pd R w i dp fp fy) : posOf R w = i := by
 unfold posOf
 rw [h.c1]
 simp
theorem Pd.err {R : Rc} {w : World} {i : Nat} {dp fp fy : Int} (h : Pd R w i dp fp fy) : errOf R w = fy := by
 unfold errOf
 rw [h.c3]
theorem Pd.mes0 {R : Rc} {w : World} {i : Nat} {dp fp : Int} (h : Pd R w i dp fp 0) : mesN R w = R.n + 2 - i := by
 unfold mesN
 rw [h.err, h.pos, if_pos rfl]
theorem Pd.mes1 {R : Rc} {w : World} {i : Nat} {dp fp fy : Int} (h : Pd R w i dp fp fy) (hy : fy ≠ 0) : mesN R w = 0 := by
 unfold mesN
 rw [h.err, if_neg hy]
theorem phd_lt {R : Rc} {w : World} {i : Nat} {dp fp fy : Int} (h : Pd R w i dp fp fy) (hk : (hd R.q (R.T.drop i)).k ≠ 0) : i < R.n := by
 by_cases hl : i < R.n
 ·
  exact hl
 ·
  refine absurd ?_ hk
  have hT := h.ts.1
  rw [hd_end (by omega)]
theorem psg_lt {R : Rc} {w : World} {i : Nat} {dp fp fy : Int} {s : Str} (h : Pd R w i dp fp fy) (hk : sg (hd R.q (R.T.drop i)) s = true) : i < R.n := phd_lt h (by rw [sg_k hk]; decide)
/-- The reader, and a row of texts of the call's own. -/
structure Nl (R : Rc) (wb w : World) (v : Value) (acc : List Str) (i : Nat) (dp fp fy : Int) : Prop where
 rd : Pd R w i dp fp fy
 own : OwnS w wb.heap.size v acc
 off : Off [R.b] wb w
 bl : R.b < wb.heap.size
theorem Nl.later {R : Rc} {wb w w' : World} {v : Value} {acc : List Str} {i : Nat} {dp fp fy : Int} (h : Nl R wb w v acc i dp fp fy) (hb : Below w.heap.size w w') : Nl R wb w' v acc i dp fp fy :=
 ⟨h.rd.later hb, h.own.later hb, h.off.on hb, h.bl⟩
theorem Nl.read {R : Rc} {wb w w' : World} {v : Value} {acc : List Str} {i j : Nat} {dp fp fy dp' fp' fy' : Int} (h : Nl R wb w v acc i dp fp fy) (hr : Pd R w' j dp' fp' fy') (ho : Off [R.b] w w') : Nl R wb w' v acc j dp' fp' fy' :=
 ⟨hr, h.own.kept ho (by have := h.bl; simp; omega), h.off.then ho, h.bl⟩
theorem Nl.grown {R : Rc} {wb w w' : World} {v v' : Value} {acc acc' : List Str} {i : Nat} {dp fp fy : Int} (h : Nl R wb w v acc i dp fp fy) (ho : OwnS w' wb.heap.size v' acc') (hg : w.grownBy w' v.ownBlock) : Nl R wb w' v' acc' i dp fp fy := by
 have hr : ∀ g, v.ownBlock = some g → wb.heap.size ≤ g := fun g e => (World.ownsRow.lt h.own g e).1
 refine ⟨h.rd.off (grown_off hg) (fun x hx => ?_), ho, h.off.trans (grown_off hg) (fun y hy => Or.inr (hr y (by simpa using hy))), h.bl⟩
 have := hr x (by simpa using hx)
 have := h.bl
 omega
def NmSt (R : Rc) (RES : Rs (List Str)) (acc : List Str) (n i : Nat) (fp fy : Int) : Prop :=
 (fy = 0 ∧ i ≤ R.n ∧ ∃ kf, R.n - i < kf ∧ RES = lsF R.q [41] (nmI R.q) fewN kf (decide (n = 0)) acc (R.T.drop i)) ∨ (fy ≠ 0 ∧ i ≤ R.n + 4 ∧ RES = .inl (fp, fy))
def rnmOut (R : Rc) (w : World) (dp fp : Int) (res : Rs (List Str)) (e : Ending) (w' : World) : Prop :=
 match res with
 | .inr x => ∃ an n cn j, e = .returned (.slice an n cn) ∧ x.2 = R.T.drop j ∧ j ≤ R.n ∧ Nl R w w' (.slice an n cn) x.1 j dp fp 0
 | .inl er => ∃ an n cn j l, e = .returned (.slice an n cn) ∧ j ≤ R.n + 5 ∧ er.2 ≠ 0 ∧ Nl R w w' (.slice an n cn) l j dp er.1 er.2
set_option maxHeartbeats 16000000 in
set_option maxRecDepth 20000 in
theorem rnames_any (R : Rc) {w : World} {i : Nat} {dp fp : Int} (h : Pd R w i dp fp 0) (hin : i ≤ R.n) : Calls Tryz.prog 69 #[R.ptr] w (rnmOut R w dp fp (nmP R.q (R.T.drop i))) := by
 obtain ⟨i0, hi, hz0, hz1, hz2⟩ := info_parts9
 have hnb := h.nb
 have HT : Hid (R.T.length = R.n) := h.ts.1
 obtain ⟨RES, HRES⟩ : ∃ RES, Hid (nmP R.q (R.T.drop i) = RES) := ⟨_, rfl⟩
 rw [HRES.out]
 have N0 : Nl R w w (.slice none 0 0) [] i dp fp 0 := ⟨h, OwnS.nil _ _, Off.refl _ _, h.bl⟩
 have ht : Calls Tryz.prog 114 #[R.ptr, tx [40]] w fun e w' => e = .returned (.tuple #[]) ∧ ∃ fp' fy', Nl R w w' (.slice none 0 0) [] (i + 1) dp fp' fy' ∧ (fy' = 0 → fp' = fp) ∧ Hid (NmSt R RES [] 0 (i + 1) fp' fy') := by
  cases hs : sg (hd R.q (R.T.drop i)) [40] with
  | true =>
   refine (rtake_yes R [40] hs h (by omega)).mono ?_
   rintro e w1 ⟨rfl, P1, o1⟩
   have hl := psg_lt h hs
   refine ⟨rfl, fp, 0, N0.read P1 o1, fun _ => rfl, Or.inl ⟨rfl, by omega, (R.T.drop i).length + 1, ?_, ?_⟩⟩
   ·
    rw [List.length_drop, HT.out]; omega
   ·
    rw [← HRES.out, nmP, if_pos hs, List.tail_drop]; rfl
  | false =>
   refine (rtake_no R [40] hs h (by omega)).mono ?_
   rintro e w1 ⟨rfl, P1, o1⟩
   refine ⟨rfl, _, 71, N0.read P1 o1, (fun h => absurd h (by decide)), Or.inr ⟨by decide, by omega, ?_⟩⟩
   rw [← HRES.out, nmP, if_neg (by rw [hs]; decide)]
   rfl
 clear HRES N0 h
 go_enter Tryz.func69, Tryz.ntmps69
 go_wp2_with fail
 refine ht.mono ?_
 rintro e w1 ⟨rfl, fp1, fy1, N1, hf1, S1⟩
 clear ht
 go_wp2_with fail
 go_loopw [3] (fun t wr => ∃ (acc : List Str) (an : Option Addr) (n cn i : Nat) (fp' fy : Int), t = .slice an n cn ∧ Nl R w wr (.slice an n cn) acc i dp fp' fy ∧ (fy = 0 → fp' = fp) ∧ Hid (acc.length = n) ∧ n ≤ i ∧ Hid (NmSt R RES acc n i fp' fy)) (fun _ wr => mesN R wr)
 case atStart => exact ⟨[], none, 0, 0, i + 1, fp1, fy1, rfl, N1, hf1, rfl, by omega, S1⟩
 case round =>
  clear S1 N1 hf1 hin
  clear i fp1 fy1
  obtain ⟨acc, an, n, cn, i, fq, fy, rfl, N, hfq, HL, hni, S⟩ := hrel
  rcases S.out with ⟨rfl, hin, kf0, hkf, HR0⟩ | ⟨hy, hin, HR0⟩
  ·
   have HR : Hid _ := HR0
   obtain rfl : fp = fq := (hfq rfl).symm
   clear HR0 hfq S
   obtain ⟨kf, rfl⟩ : ∃ kf, kf0 = kf + 1 := ⟨kf0 - 1, by omega⟩
   have hg := rsign_any R [41] N.rd
   have c3 := N.rd.c3
   cases hc : sg (hd R.q (R.T.drop i)) [41] with
   | true =>
    have HX : Hid (RES = if fewN acc = true then .inr (acc, R.T.drop (i + 1)) else .inl (bad R.q (R.T.drop i) 32)) := by
     show _ = _
     rw [HR.out, lsF, if_pos hc, List.tail_drop]
    have hl := psg_lt N.rd hc
    rw [hc] at hg
    have hts := fun W (hW : Pd R W i dp fp 0) => rtake_yes R [41] hc hW (by omega)
    have hfl := fun W (hW : Pd R W i dp fp 0) => fail_new R 32 hW
    clear HR hc
    by_cases h8 : n ≤ 8
    ·
     have h8' : ¬ (8 : Int) < n := by omega
     go_wp2_with fail
     refine hg.mono ?_
     rintro e w2 ⟨rfl, b2⟩
     have N2 := N.later b2
     have d3 := N2.rd.c3
     obtain ⟨ao, cap, ev, hss, hcap, _⟩ := N2.own.slice
     injection ev with e1 e2 e3
     subst e1 e3
     rw [HL.out] at hss hcap
     have htw := rtwice_any an n cn acc w2 (by omega) hss
     clear c3 hss e2
     cases ho : once acc with
     | true =>
      have HX2 : Hid (RES = .inr (acc, R.T.drop (i + 1))) := by
       show _ = _
       rw [HX.out, if_pos]
       rw [fewN, HL.out, ho, decide_eq_true h8]; rfl
      rw [ho] at htw
      clear HX ho
      go_wp2_with fail
      refine htw.mono ?_
      rintro e w3 ⟨rfl, b3⟩
      have N3 := N2.later b3
      clear d3 htw
      go_wp2_with fail
      refine (hts _ N3.rd).mono ?_
      rintro e w4 ⟨rfl, P4, o4⟩
      have N4 := N3.read P4 o4
      clear hts
      go_wp2_with fail
      go_ret
      rw [HX2.out]
      exact ⟨an, n, cn, i + 1, rfl, rfl, by omega, N4⟩
     | false =>
      have HX2 : Hid (RES = .inl (bad R.q (R.T.drop i) 32)) := by
       show _ = _
       rw [HX.out, if_neg]
       rw [fewN, ho]; simp
      rw [ho] at htw
      clear HX ho
      go_wp2_with fail
      refine htw.mono ?_
      rintro e w3 ⟨rfl, b3⟩
      have N3 := N2.later b3
      clear d3 htw
      go_wp2_with fail
      refine (hfl _ N3.rd).mono ?_
      rintro e w4 ⟨rfl, P4, o4⟩
      have N4 := N3.read P4 o4
      have hto := rtake_old R [41] (by decide) P4 (by omega)
      clear hfl
      go_wp2_with fail
      refine hto.mono ?_
      rintro e w5 ⟨rfl, P5, o5⟩
      have N5 := N4.read P5 o5
      go_wp2_with fail
      go_ret
      rw [HX2.out]
      exact ⟨an, n, cn, i + 1, acc, rfl, by omega, by show (32 : Int) ≠ 0; decide, N5⟩
    ·
     have h8' : (8 : Int) < n := by omega
     have HX2 : Hid (RES = .inl (bad R.q (R.T.drop i) 32)) := by
      show _ = _
      rw [HX.out, if_neg]
      rw [fewN, HL.out, decide_eq_false h8]; simp
     clear HX
     go_wp2_with fail
     refine hg.mono ?_
     rintro e w2 ⟨rfl, b2⟩
     have N2 := N.later b2
     have d3 := N2.rd.c3
     clear c3
     go_wp2_with fail
     refine (hfl _ N2.rd).mono ?_
     rintro e w4 ⟨rfl, P4, o4⟩
     have N4 := N2.read P4 o4
     have hto := rtake_old R [41] (by decide) P4 (by omega)
     clear hfl
     go_wp2_with fail
     refine hto.mono ?_
     rintro e w5 ⟨rfl, P5, o5⟩
     have N5 := N4.read P5 o5
     go_wp2_with fail
     go_ret
     rw [HX2.out]
     exact ⟨an, n, cn, i + 1, acc, rfl, by omega, by show (32 : Int) ≠ 0; decide, N5⟩
   | false =>
    have HX : Hid (RES = if decide (n = 0) = false ∧ sg (hd R.q (R.T.drop i)) [44] = false then .inl (bad R.q (R.T.drop i) 71) else bnd (nmI R.q (if decide (n = 0) = true then R.T.drop i else R.T.drop (i + 1))) fun x => lsF R.q [41] (nmI R.q) fewN kf false (acc ++ [x.1]) x.2) := by
     show _ = _
     rw [HR.out, lsF, if_neg (by rw [hc]; decide), List.tail_drop]
    rw [hc] at hg
    clear HR hc
    by_cases hn0 : n = 0
    ·
     have hn0' : ¬ (0 : Int) < n := by omega
     rw [decide_eq_true hn0, if_neg (by simp), if_pos rfl] at HX
     clear hn0
     cases hk1 : (hd R.q (R.T.drop (i))).k == 1 with
     | true =>
      have hk2 : (hd R.q (R.T.drop (i))).k = 1 := by simpa using hk1
      have HX2 : Hid (RES = lsF R.q [41] (nmI R.q) fewN kf false (acc ++ [(hd R.q (R.T.drop (i))).t]) (R.T.drop (i + 1))) := by
       show _ = _
       rw [HX.out, nmI, if_pos hk2, List.tail_drop]
       rfl
      have hpk := fun W (hW : Pd R W (i) dp fp 0) => peek0_any R hW
      have f0 := fld0 (hd R.q (R.T.drop (i)))
      have hlt := fun W (hW : Pd R W (i) dp fp 0) => phd_lt hW (by rw [hk2]; decide)
      have HXG : Hid _ := HX2
      have hne : ((hd R.q (R.T.drop (i))).k != 1) = false := by rw [bne_eq_false_iff_eq]; exact hk2
      obtain ⟨xk, hxk⟩ : ∃ xk, Hid (hd R.q (R.T.drop (i)) = xk) := ⟨_, rfl⟩
      simp only [hxk.out] at hpk f0 hne
      clear hk1 hk2 HX HXG
      go_wp2_with fail
      refine hg.mono ?_
      rintro e w2 ⟨rfl, b2⟩
      have N2 := N.later b2
      have d3 := N2.rd.c3
      clear c3 hg
      have hl6 := hlt _ N2.rd
      go_wp2_with fail
      refine (hpk _ N2.rd).mono ?_
      rintro e w6 ⟨rfl, b6⟩
      have N6 := N2.later b6
      clear d3 hpk b6
      have hp8 := peek0_any R N6.rd
      obtain ⟨xq, hxq⟩ : ∃ xq, Hid (hd R.q (R.T.drop (i)) = xq) := ⟨_, rfl⟩
      rw [hxq.out] at hp8
      have f2 := fld2 xq
      go_wp2_with fail
      refine hp8.mono ?_
      rintro e u1 ⟨rfl, b8⟩
      have M1 := N6.later b8
      have M2 := M1.later (bal (Below.refl u1.heap.size u1) (.cells #[tx xq.t] 9))
      have own2 := M2.own
      have zb2 := M2.off.size
      unfold OwnS at own2
      rw [HL.out] at own2
      clear hp8 b8
      go_wp2_with (at_builtin; go_must (refine wpList_append_own _ rfl _ _ 26 rfl w.heap.size 9 i0 (tx []) 1 16 Tryz.underlying26 hi hz0 hz1 hz2 rfl (by decide) _ _ _ rfl own2 ⟨u1.heap.size, 0, none⟩ 1 1 [tx xq.t] rfl rfl (one_cell (World.cell?_alloc_new u1 _ _ 0)) (fun u hu => by cases hu with | head => rfl | tail _ h => cases h) ?h63 ?hby ?hbs ?_))
      case h63 => unfold maxLen; omega
      case hby => omega
      case hbs => omega
      intro v4 u4 ho4 hg4 _
      obtain ⟨ao, cap, rfl⟩ : ∃ ao cap, v4 = .slice ao (n + 1) cap := by
       rcases ho4.2 with ⟨e, h0⟩ | ⟨g, cap, cur, e, _⟩
       ·
        omega
       ·
        exact ⟨_, _, e⟩
      have own4 : OwnS u4 w.heap.size (.slice ao (n + 1) cap) (acc ++ [xq.t]) := OwnS.snoc (by rw [HL.out]; exact ho4)
      have M4 := M2.grown own4 hg4
      have k1 := M4.rd.c1
      have g1 := M4.rd.fz 1
      have s5 := set_heap M4.rd.h 1 (.int .i64 ((i : Int) + 1))
      have o5 := set_off u4 R.b 1 (.int .i64 ((i : Int) + 1))
      have P5 := M4.rd.put (j := i + 1) (dp' := dp) (fp' := fp) (fy' := 0) o5 (by omega) s5
      have M5 := M4.read P5 o5
      have hL5 : Hid ((acc ++ [xq.t]).length = n + 1) := by show _ = _; rw [List.length_append, HL.out]; rfl
      clear own2 ho4 hg4 own4 M1 M2 s5
      go_wp2_with fail
      go_roundw
      case rel => exact ⟨acc ++ [xq.t], ao, n + 1, cap, i + 1, fp, 0, rfl, M5, fun _ => rfl, hL5, by omega, Or.inl ⟨rfl, by omega, kf, by omega, by rw [HX2.out, hxq.out]; rfl⟩⟩
      case measure => show mesN R _ < mesN R _; rw [M5.rd.mes0, N.rd.mes0]; omega
     | false =>
      have hk2 : (hd R.q (R.T.drop (i))).k ≠ 1 := by simpa using hk1
      have HX2 : Hid (RES = .inl ((hd R.q (R.T.drop (i))).p, 71)) := by
       show _ = _
       rw [HX.out, nmI, if_neg hk2]
       rfl
      have hpk := fun W (hW : Pd R W (i) dp fp 0) => peek0_any R hW
      have hfl := fun W (hW : Pd R W (i) dp fp 0) => fail_new R 71 hW
      have f0 := fld0 (hd R.q (R.T.drop (i)))
      have hne : ((hd R.q (R.T.drop (i))).k != 1) = true := by rw [bne_iff_ne]; exact hk2
      obtain ⟨xk, hxk⟩ : ∃ xk, Hid (hd R.q (R.T.drop (i)) = xk) := ⟨_, rfl⟩
      simp only [hxk.out] at hpk f0 hne hfl
      rw [hxk.out] at HX2
      obtain ⟨fz, hfz⟩ : ∃ fz, Hid (xk.p = fz) := ⟨_, rfl⟩
      simp only [hfz.out] at hfl
      rw [hfz.out] at HX2
      clear hk1 hk2 HX
      go_wp2_with fail
      refine hg.mono ?_
      rintro e w2 ⟨rfl, b2⟩
      have N2 := N.later b2
      have d3 := N2.rd.c3
      clear c3 hg
      go_wp2_with fail
      refine (hpk _ N2.rd).mono ?_
      rintro e w6 ⟨rfl, b6⟩
      have N6 := N2.later b6
      clear d3 hpk b6
      go_wp2_with fail
      refine (hfl _ N6.rd).mono ?_
      rintro e w5 ⟨rfl, P7, o7⟩
      have N5 := N6.read P7 o7
      clear hfl P7 o7 N6
      have hp8 := peek0_any R N5.rd
      obtain ⟨xq, hxq⟩ : ∃ xq, Hid (hd R.q (R.T.drop (i)) = xq) := ⟨_, rfl⟩
      rw [hxq.out] at hp8
      have f2 := fld2 xq
      go_wp2_with fail
      refine hp8.mono ?_
      rintro e u1 ⟨rfl, b8⟩
      have M1 := N5.later b8
      have M2 := M1.later (bal (Below.refl u1.heap.size u1) (.cells #[tx xq.t] 9))
      have own2 := M2.own
      have zb2 := M2.off.size
      unfold OwnS at own2
      rw [HL.out] at own2
      clear hp8 b8
      go_wp2_with (at_builtin; go_must (refine wpList_append_own _ rfl _ _ 26 rfl w.heap.size 9 i0 (tx []) 1 16 Tryz.underlying26 hi hz0 hz1 hz2 rfl (by decide) _ _ _ rfl own2 ⟨u1.heap.size, 0, none⟩ 1 1 [tx xq.t] rfl rfl (one_cell (World.cell?_alloc_new u1 _ _ 0)) (fun u hu => by cases hu with | head => rfl | tail _ h => cases h) ?h63 ?hby ?hbs ?_))
      case h63 => unfold maxLen; omega
      case hby => omega
      case hbs => omega
      intro v4 u4 ho4 hg4 _
      obtain ⟨ao, cap, rfl⟩ : ∃ ao cap, v4 = .slice ao (n + 1) cap := by
       rcases ho4.2 with ⟨e, h0⟩ | ⟨g, cap, cur, e, _⟩
       ·
        omega
       ·
        exact ⟨_, _, e⟩
      have own4 : OwnS u4 w.heap.size (.slice ao (n + 1) cap) (acc ++ [xq.t]) := OwnS.snoc (by rw [HL.out]; exact ho4)
      have M4 := M2.grown own4 hg4
      have k1 := M4.rd.c1
      have g1 := M4.rd.fz 1
      have s5 := set_heap M4.rd.h 1 (.int .i64 ((i : Int) + 1))
      have o5 := set_off u4 R.b 1 (.int .i64 ((i : Int) + 1))
      have P5 := M4.rd.put (j := i + 1) (dp' := dp) (fp' := fz) (fy' := 71) o5 (by omega) s5
      have M5 := M4.read P5 o5
      have hL5 : Hid ((acc ++ [xq.t]).length = n + 1) := by show _ = _; rw [List.length_append, HL.out]; rfl
      clear own2 ho4 hg4 own4 M1 M2 s5
      go_wp2_with fail
      go_roundw
      case rel => exact ⟨acc ++ [xq.t], ao, n + 1, cap, i + 1, fz, 71, rfl, M5, (fun h => absurd h (by decide)), hL5, by omega, Or.inr ⟨by decide, by omega, HX2.out⟩⟩
      case measure => show mesN R _ < mesN R _; rw [M5.rd.mes1 (by decide), N.rd.mes0]; omega
    ·
     have hn0' : (0 : Int) < n := by omega
     rw [decide_eq_false hn0] at HX
     cases hk : sg (hd R.q (R.T.drop i)) [44] with
     | false =>
      rw [if_pos ⟨rfl, hk⟩] at HX
      have htk := fun W (hW : Pd R W i dp fp 0) => rtake_no R [44] hk hW (by omega)
      have ebad : bad R.q (R.T.drop i) 71 = ((hd R.q (R.T.drop i)).p, 71) := rfl
      rw [ebad] at HX
      clear hk ebad
      generalize (hd R.q (R.T.drop i)).p = fz at *
      go_wp2_with fail
      refine hg.mono ?_
      rintro e w2 ⟨rfl, b2⟩
      have N2 := N.later b2
      clear c3 hg
      go_wp2_with fail
      refine (htk _ N2.rd).mono ?_
      rintro e w3 ⟨rfl, P3, o3⟩
      have N3 := N2.read P3 o3
      have d3 := N3.rd.c3
      clear htk P3 o3 N2
      have hp8 := peek0_any R N3.rd
      obtain ⟨xq, hxq⟩ : ∃ xq, Hid (hd R.q (R.T.drop (i + 1)) = xq) := ⟨_, rfl⟩
      rw [hxq.out] at hp8
      have f2 := fld2 xq
      go_wp2_with fail
      refine hp8.mono ?_
      rintro e u1 ⟨rfl, b8⟩
      have M1 := N3.later b8
      have M2 := M1.later (bal (Below.refl u1.heap.size u1) (.cells #[tx xq.t] 9))
      have own2 := M2.own
      have zb2 := M2.off.size
      unfold OwnS at own2
      rw [HL.out] at own2
      clear hp8 b8
      go_wp2_with (at_builtin; go_must (refine wpList_append_own _ rfl _ _ 26 rfl w.heap.size 9 i0 (tx []) 1 16 Tryz.underlying26 hi hz0 hz1 hz2 rfl (by decide) _ _ _ rfl own2 ⟨u1.heap.size, 0, none⟩ 1 1 [tx xq.t] rfl rfl (one_cell (World.cell?_alloc_new u1 _ _ 0)) (fun u hu => by cases hu with | head => rfl | tail _ h => cases h) ?h63 ?hby ?hbs ?_))
      case h63 => unfold maxLen; omega
      case hby => omega
      case hbs => omega
      intro v4 u4 ho4 hg4 _
      obtain ⟨ao, cap, rfl⟩ : ∃ ao cap, v4 = .slice ao (n + 1) cap := by
       rcases ho4.2 with ⟨e, h0⟩ | ⟨g, cap, cur, e, _⟩
       ·
        omega
       ·
        exact ⟨_, _, e⟩
      have own4 : OwnS u4 w.heap.size (.slice ao (n + 1) cap) (acc ++ [xq.t]) := OwnS.snoc (by rw [HL.out]; exact ho4)
      have M4 := M2.grown own4 hg4
      have k1 := M4.rd.c1
      have g1 := M4.rd.fz 1
      have s5 := set_heap M4.rd.h 1 (.int .i64 ((i : Int) + 1 + 1))
      have o5 := set_off u4 R.b 1 (.int .i64 ((i : Int) + 1 + 1))
      have P5 := M4.rd.put (j := i + 2) (dp' := dp) (fp' := fz) (fy' := 71) o5 (by omega) s5
      have M5 := M4.read P5 o5
      have hL5 : Hid ((acc ++ [xq.t]).length = n + 1) := by show _ = _; rw [List.length_append, HL.out]; rfl
      clear own2 ho4 hg4 own4 M1 M2 s5
      go_wp2_with fail
      go_roundw
      case rel => exact ⟨acc ++ [xq.t], ao, n + 1, cap, i + 2, fz, 71, rfl, M5, (fun h => absurd h (by decide)), hL5, by omega, Or.inr ⟨by decide, by omega, HX.out⟩⟩
      case measure => show mesN R _ < mesN R _; rw [M5.rd.mes1 (by decide), N.rd.mes0]; omega
     | true =>
      rw [if_neg (by simp [hk]), if_neg (by decide)] at HX
      have hl := psg_lt N.rd hk
      have htk := fun W (hW : Pd R W i dp fp 0) => rtake_yes R [44] hk hW (by omega)
      clear hk
      cases hk1 : (hd R.q (R.T.drop (i + 1))).k == 1 with
      | true =>
       have hk2 : (hd R.q (R.T.drop (i + 1))).k = 1 := by simpa using hk1
       have HX2 : Hid (RES = lsF R.q [41] (nmI R.q) fewN kf false (acc ++ [(hd R.q (R.T.drop (i + 1))).t]) (R.T.drop (i + 2))) := by
        show _ = _
        rw [HX.out, nmI, if_pos hk2, List.tail_drop]
        rfl
       have hpk := fun W (hW : Pd R W (i + 1) dp fp 0) => peek0_any R hW
       have f0 := fld0 (hd R.q (R.T.drop (i + 1)))
       have hlt := fun W (hW : Pd R W (i + 1) dp fp 0) => phd_lt hW (by rw [hk2]; decide)
       have HXG : Hid _ := HX2
       have hne : ((hd R.q (R.T.drop (i + 1))).k != 1) = false := by rw [bne_eq_false_iff_eq]; exact hk2
       obtain ⟨xk, hxk⟩ : ∃ xk, Hid (hd R.q (R.T.drop (i + 1)) = xk) := ⟨_, rfl⟩
       simp only [hxk.out] at hpk f0 hne
       clear hk1 hk2 HX HXG
       go_wp2_with fail
       refine hg.mono ?_
       rintro e w2 ⟨rfl, b2⟩
       have N2 := N.later b2
       clear c3 hg
       go_wp2_with fail
       refine (htk _ N2.rd).mono ?_
       rintro e w3 ⟨rfl, P3, o3⟩
       have N3 := N2.read P3 o3
       have d3 := N3.rd.c3
       clear htk P3 o3 N2
       have hl6 := hlt _ N3.rd
       go_wp2_with fail
       refine (hpk _ N3.rd).mono ?_
       rintro e w6 ⟨rfl, b6⟩
       have N6 := N3.later b6
       clear d3 hpk b6
       have hp8 := peek0_any R N6.rd
       obtain ⟨xq, hxq⟩ : ∃ xq, Hid (hd R.q (R.T.drop (i + 1)) = xq) := ⟨_, rfl⟩
       rw [hxq.out] at hp8
       have f2 := fld2 xq
       go_wp2_with fail
       refine hp8.mono ?_
       rintro e u1 ⟨rfl, b8⟩
       have M1 := N6.later b8
       have M2 := M1.later (bal (Below.refl u1.heap.size u1) (.cells #[tx xq.t] 9))
       have own2 := M2.own
       have zb2 := M2.off.size
       unfold OwnS at own2
       rw [HL.out] at own2
       clear hp8 b8
       go_wp2_with (at_builtin; go_must (refine wpList_append_own _ rfl _ _ 26 rfl w.heap.size 9 i0 (tx []) 1 16 Tryz.underlying26 hi hz0 hz1 hz2 rfl (by decide) _ _ _ rfl own2 ⟨u1.heap.size, 0, none⟩ 1 1 [tx xq.t] rfl rfl (one_cell (World.cell?_alloc_new u1 _ _ 0)) (fun u hu => by cases hu with | head => rfl | tail _ h => cases h) ?h63 ?hby ?hbs ?_))
       case h63 => unfold maxLen; omega
       case hby => omega
       case hbs => omega
       intro v4 u4 ho4 hg4 _
       obtain ⟨ao, cap, rfl⟩ : ∃ ao cap, v4 = .slice ao (n + 1) cap := by
        rcases ho4.2 with ⟨e, h0⟩ | ⟨g, cap, cur, e, _⟩
        ·
         omega
        ·
         exact ⟨_, _, e⟩
       have own4 : OwnS u4 w.heap.size (.slice ao (n + 1) cap) (acc ++ [xq.t]) := OwnS.snoc (by rw [HL.out]; exact ho4)
       have M4 := M2.grown own4 hg4
       have k1 := M4.rd.c1
       have g1 := M4.rd.fz 1
       have s5 := set_heap M4.rd.h 1 (.int .i64 ((i : Int) + 1 + 1))
       have o5 := set_off u4 R.b 1 (.int .i64 ((i : Int) + 1 + 1))
       have P5 := M4.rd.put (j := i + 2) (dp' := dp) (fp' := fp) (fy' := 0) o5 (by omega) s5
       have M5 := M4.read P5 o5
       have hL5 : Hid ((acc ++ [xq.t]).length = n + 1) := by show _ = _; rw [List.length_append, HL.out]; rfl
       clear own2 ho4 hg4 own4 M1 M2 s5
       go_wp2_with fail
       go_roundw
       case rel => exact ⟨acc ++ [xq.t], ao, n + 1, cap, i + 2, fp, 0, rfl, M5, fun _ => rfl, hL5, by omega, Or.inl ⟨rfl, by omega, kf, by omega, by rw [HX2.out, hxq.out]; rfl⟩⟩
       case measure => show mesN R _ < mesN R _; rw [M5.rd.mes0, N.rd.mes0]; omega
      | false =>
       have hk2 : (hd R.q (R.T.drop (i + 1))).k ≠ 1 := by simpa using hk1
       have HX2 : Hid (RES = .inl ((hd R.q (R.T.drop (i + 1))).p, 71)) := by
        show _ = _
        rw [HX.out, nmI, if_neg hk2]
        rfl
       have hpk := fun W (hW : Pd R W (i + 1) dp fp 0) => peek0_any R hW
       have hfl := fun W (hW : Pd R W (i + 1) dp fp 0) => fail_new R 71 hW
       have f0 := fld0 (hd R.q (R.T.drop (i + 1)))
       have hne : ((hd R.q (R.T.drop (i + 1))).k != 1) = true := by rw [bne_iff_ne]; exact hk2
       obtain ⟨xk, hxk⟩ : ∃ xk, Hid (hd R.q (R.T.drop (i + 1)) = xk) := ⟨_, rfl⟩
       simp only [hxk.out] at hpk f0 hne hfl
       rw [hxk.out] at HX2
       obtain ⟨fz, hfz⟩ : ∃ fz, Hid (xk.p = fz) := ⟨_, rfl⟩
       simp only [hfz.out] at hfl
       rw [hfz.out] at HX2
       clear hk1 hk2 HX
       go_wp2_with fail
       refine hg.mono ?_
       rintro e w2 ⟨rfl, b2⟩
       have N2 := N.later b2
       clear c3 hg
       go_wp2_with fail
       refine (htk _ N2.rd).mono ?_
       rintro e w3 ⟨rfl, P3, o3⟩
       have N3 := N2.read P3 o3
       have d3 := N3.rd.c3
       clear htk P3 o3 N2
       go_wp2_with fail
       refine (hpk _ N3.rd).mono ?_
       rintro e w6 ⟨rfl, b6⟩
       have N6 := N3.later b6
       clear d3 hpk b6
       go_wp2_with fail
       refine (hfl _ N6.rd).mono ?_
       rintro e w5 ⟨rfl, P7, o7⟩
       have N5 := N6.read P7 o7
       clear hfl P7 o7 N6
       have hp8 := peek0_any R N5.rd
       obtain ⟨xq, hxq⟩ : ∃ xq, Hid (hd R.q (R.T.drop (i + 1)) = xq) := ⟨_, rfl⟩
       rw [hxq.out] at hp8
       have f2 := fld2 xq
       go_wp2_with fail
       refine hp8.mono ?_
       rintro e u1 ⟨rfl, b8⟩
       have M1 := N5.later b8
       have M2 := M1.later (bal (Below.refl u1.heap.size u1) (.cells #[tx xq.t] 9))
       have own2 := M2.own
       have zb2 := M2.off.size
       unfold OwnS at own2
       rw [HL.out] at own2
       clear hp8 b8
       go_wp2_with (at_builtin; go_must (refine wpList_append_own _ rfl _ _ 26 rfl w.heap.size 9 i0 (tx []) 1 16 Tryz.underlying26 hi hz0 hz1 hz2 rfl (by decide) _ _ _ rfl own2 ⟨u1.heap.size, 0, none⟩ 1 1 [tx xq.t] rfl rfl (one_cell (World.cell?_alloc_new u1 _ _ 0)) (fun u hu => by cases hu with | head => rfl | tail _ h => cases h) ?h63 ?hby ?hbs ?_))
       case h63 => unfold maxLen; omega
       case hby => omega
       case hbs => omega
       intro v4 u4 ho4 hg4 _
       obtain ⟨ao, cap, rfl⟩ : ∃ ao cap, v4 = .slice ao (n + 1) cap := by
        rcases ho4.2 with ⟨e, h0⟩ | ⟨g, cap, cur, e, _⟩
        ·
         omega
        ·
         exact ⟨_, _, e⟩
       have own4 : OwnS u4 w.heap.size (.slice ao (n + 1) cap) (acc ++ [xq.t]) := OwnS.snoc (by rw [HL.out]; exact ho4)
       have M4 := M2.grown own4 hg4
       have k1 := M4.rd.c1
       have g1 := M4.rd.fz 1
       have s5 := set_heap M4.rd.h 1 (.int .i64 ((i : Int) + 1 + 1))
       have o5 := set_off u4 R.b 1 (.int .i64 ((i : Int) + 1 + 1))
       have P5 := M4.rd.put (j := i + 2) (dp' := dp) (fp' := fz) (fy' := 71) o5 (by omega) s5
       have M5 := M4.read P5 o5
       have hL5 : Hid ((acc ++ [xq.t]).length = n + 1) := by show _ = _; rw [List.length_append, HL.out]; rfl
       clear own2 ho4 hg4 own4 M1 M2 s5
       go_wp2_with fail
       go_roundw
       case rel => exact ⟨acc ++ [xq.t], ao, n + 1, cap, i + 2, fz, 71, rfl, M5, (fun h => absurd h (by decide)), hL5, by omega, Or.inr ⟨by decide, by omega, HX2.out⟩⟩
       case measure => show mesN R _ < mesN R _; rw [M5.rd.mes1 (by decide), N.rd.mes0]; omega
  ·
   have HR : Hid (RES = .inl (fq, fy)) := HR0
   have hy' : (fy == 0) = false := by rw [beq_eq_false_iff_ne]; exact hy
   have c3 := N.rd.c3
   have hto := rtake_old R [41] hy N.rd (by omega)
   have Hy : Hid (fy ≠ 0) := hy
   clear HR0 hfq S hy
   go_wp2_with fail
   refine hto.mono ?_
   rintro e w2 ⟨rfl, P2, o2⟩
   have N2 := N.read P2 o2
   go_wp2_with fail
   go_ret
   rw [HR.out]
   exact ⟨an, n, cn, i + 1, acc, rfl, by omega, Hy.out, N2⟩
end Go.Proofs.YteankdaegdhfiaaGreatDoor
