/- The reference's Parse: as the program's. -/
import Derived.Test.YtmhpmlfpflkgbaaDoorReadQ
namespace Go.Proofs.YtmhpmlfpflkgbaaDoor
open Go.RowKit

theorem nok {s : Str} (h : okParse s = true → False) : okParse s = false := by
  cases e : okParse s with
  | false => rfl
  | true => exact absurd e h
theorem ex_hd (s : Str) (k : Nat) : (⟨s.toArray⟩ : ByteArray).extract 0 k = ⟨(s.take k).toArray⟩ := by
  rw [Lib.extract_eq]
  simp

set_option maxRecDepth 200000 in
set_option maxHeartbeats 8000000 in
theorem refParse_any (s : Str) (w : World) (hs : s.length ≤ 1000) :
    Calls Tryd.prog 10 #[tx s] w fun e w' => ∃ v, e = .returned (.tuple #[v, .bool (okParse s)]) ∧ Own w' w.heap.size v (parseL s) ∧ Below w.heap.size w w' := by
  have hid := ident_any s w (by omega)
  have hKl := idn_le s
  rw [show (s.takeWhile nameCh).length = idn s from rfl] at hid
  have hx1 := ex_tail s (idn s)
  have hx0 := ex_hd s (idn s)
  have hTl : (s.drop (idn s)).length ≤ s.length := by simp
  have htk : (s.take (idn s)).length ≤ s.length := by simp; omega
  have HD : Hid (hd s = if idn s = 0 then [] else [(nm, s.take (idn s))]) := rfl
  obtain ⟨K, hK⟩ : ∃ K, idn s = K := ⟨_, rfl⟩
  rw [hK] at hid hKl hx1 hx0 hTl htk HD
  have HK : Hid _ := hK
  clear hK
  obtain ⟨T, hT⟩ : ∃ T, T = s.drop K := ⟨_, rfl⟩
  rw [← hT] at hx1 hTl
  have HT : Hid _ := hT
  clear hT
  obtain ⟨ta0, hta⟩ : ∃ t, t = s.take K := ⟨_, rfl⟩
  rw [← hta] at hx0 htk HD
  clear hta
  have y0 : (K : Int) ≤ s.length := by omega
  go_enter Tryd.func10, Tryd.ntmps10
  go_wp2_with fail
  refine hid.mono ?_
  rintro e w' ⟨rfl, rfl⟩
  clear hid
  by_cases hK0 : K = 0
  · subst hK0
    have zk : ¬ (0 : Int) < ((0 : Nat) : Int) := by decide
    obtain ⟨out, hoe⟩ : ∃ o : List Pr, o = [] := ⟨_, rfl⟩
    have HO : Hid (out = hd s) := by show _ = _; rw [hoe, HD.out, if_pos rfl]
    have ho : Own w w.heap.size (.slice none 0 0) out := by rw [hoe]; exact Own.none _ _
    have hb : Below w.heap.size w w := Below.refl _ _
    have HFit : Hid (Fit out) := fun q hq => by rw [hoe] at hq; cases hq
    have hol0 : out.length ≤ 1 := by rw [hoe]; simp
    have HOE : Hid _ := hoe
    clear HD hx0 hoe
    by_cases hT : T = []
    · have HF : Hid (fin s out) := by rw [HO.out]; exact fin_short (by rw [HK.out]; exact HT.out.symm.trans hT)
      have e0 : (T == []) = true := by simpa using hT
      have e0n : (T != []) = false := by rw [bne, e0]; rfl
      have hol : out.length ≤ 2000 := by omega
      clear hT HT HK HO
      have HN : Hid (out.length = 0) := by show _ = _; rw [HOE.out]; rfl
      have hps : Ps w none 0 out := by rw [HOE.out]; exact Ps.nil _ _
      go_wp2_with fail
      refine (refSorted_any none 0 0 out w (by omega) hps).mono ?_
      rintro e w5 ⟨v5, x, rfl, ho5, hp5, hs5, hb5⟩
      have B5 := Below.chain hb hb5
      have fX : Fit x := fun q hq => HFit.out q (hp5.mem_iff.1 hq)
      obtain ⟨a5, c5, rfl, hps5, _⟩ := own_slice6 ho5 (hp5.length_eq.trans HN.out)
      have hI := refIs_any a5 0 c5 x w5 (by omega) fX hps5
      have oX := ho5.base (b := w.heap.size) hb.size
      have HNO : Hid (¬ (fIs x = true ∧ fPrint x = s) → okParse s = false) := fun h => fin_no HF.out hp5 hs5 h
      clear ho5 hps ho hp5 hs5 hb5 HF HFit hb
      cases hi : fIs x with
      | false =>
        have HQ : Hid (okParse s = false) := HNO.out (fun h => by rw [hi] at h; cases h.1)
        rw [hi] at hI
        clear hi HNO
        go_wp2_with fail
        refine hI.mono ?_
        rintro e w6 ⟨rfl, hb6⟩
        go_wp2_with fail
        go_ret2
        exact ⟨_, by rw [HQ.out]; rfl, by rw [parseL_no HQ.out]; exact Own.none _ _, Below.chain B5 hb6⟩
      | true =>
        rw [hi] at hI
        have HI : Hid _ := hi
        clear hi
        go_wp2_with fail
        refine hI.mono ?_
        rintro e w6 ⟨rfl, hb6⟩
        have hP := refPrint_any a5 0 c5 x w6 (by omega) fX (hps5.later hb6)
        have B6 := Below.chain B5 hb6
        have oX6 := oX.later hb6
        clear hI oX hps5 B5 hb6
        by_cases hp : fPrint x = s
        · have HQ : Hid (okParse s = true ∧ parseL s = x) := fin_yes HI.out hp
          have hp' : (fPrint x == s) = true := by simpa using hp
          have hp2 : (fPrint x != s) = false := by rw [bne, hp']; rfl
          clear hp HNO HI
          generalize fPrint x = y at *
          go_wp2_with fail
          refine hP.mono ?_
          rintro e w7 ⟨rfl, hb7⟩
          go_wp2_with fail
          go_ret2
          exact ⟨_, by rw [HQ.out.1]; rfl, by rw [HQ.out.2]; exact oX6.later hb7, Below.chain B6 hb7⟩
        · have HQ : Hid (okParse s = false) := HNO.out (fun h => hp h.2)
          have hp' : (fPrint x == s) = false := by simpa using hp
          have hp2 : (fPrint x != s) = true := by rw [bne, hp']; rfl
          clear hp HNO HI
          generalize fPrint x = y at *
          go_wp2_with fail
          refine hP.mono ?_
          rintro e w7 ⟨rfl, hb7⟩
          go_wp2_with fail
          go_ret2
          exact ⟨_, by rw [HQ.out]; rfl, by rw [parseL_no HQ.out]; exact Own.none _ _, Below.chain B6 hb7⟩
    · have e0 : (T == []) = false := by simpa using hT
      have e0n : (T != []) = true := by rw [bne, e0]; rfl
      have hTp : 0 < T.length := List.length_pos_iff.2 hT
      have hb0 := ba_lt hTp
      have HH : Hid (T.head? = some ((⟨T.toArray⟩ : ByteArray)[0]'hb0)) := head_at hTp
      have hx3 := ex_tail T 1
      by_cases hk : (((⟨T.toArray⟩ : ByteArray)[0]'hb0).toNat : Int) = 123
      · have hk' : ((((⟨T.toArray⟩ : ByteArray)[0]'hb0).toNat : Int) == 123) = true := beq_iff_eq.2 hk
        have hkn : ((((⟨T.toArray⟩ : ByteArray)[0]'hb0).toNat : Int) != 123) = false := by rw [bne, hk']; rfl
        have HS0 : Hid (st s (T.drop 1) out) := by
          have := st_start (s := s) (by rw [HK.out, ← HT.out, HH.out, byte_eq (k := 123) (by decide) hk]; rfl)
          rw [HK.out, ← HT.out, ← HO.out] at this
          exact this
        have hd1 : (T.drop 1).length = T.length - 1 := by simp
        have htl : (T.drop 1).length ≤ s.length := by omega
        have hot : out.length + (T.drop 1).length ≤ s.length + 1 := by omega
        have hol : out.length ≤ 2000 := by omega
        have y1 : (1 : Int) ≤ T.length := by omega
        generalize T.drop 1 = T1 at *
        clear hk HH HT HK HO hT hd1
        go_wp2_with fail
        go_loopw [6, 4] (fun tv u wr => ∃ (t : Str) (v : Value) (out : List Pr), t.length ≤ s.length ∧ out.length + t.length ≤ s.length + 1 ∧ tv = tx t ∧ v = u ∧ Own wr w.heap.size v out ∧ Hid (Fit out) ∧ Hid (st s t out) ∧ Below w.heap.size w wr) (fun tv _ _ => strLen tv)
        case atStart => exact ⟨_, _, out, htl, hot, rfl, rfl, ho, HFit, HS0, hb⟩
        case round =>
          clear ho hb HFit HS0 htl hot hol
          obtain ⟨t, v, out, htl, hot, rfl, rfl, ho, HFit, HS, hb⟩ := hrel
          by_cases ht : t = [125]
          · have HF : Hid (fin s out) := by have := HS.out; rw [ht] at this; exact fin_loop this
            have ht' : (t == [125]) = true := by simpa using ht
            have ht2 : (t != [125]) = false := by rw [bne, ht']; rfl
            have hol : out.length ≤ 2000 := by omega
            clear ht HS
            obtain ⟨N, hN⟩ : ∃ N, out.length = N := ⟨_, rfl⟩
            rw [hN] at hol
            have HN : Hid _ := hN
            clear hN
            obtain ⟨ao, cap, rfl, hps, _⟩ := own_slice6 ho HN.out
            go_wp2_with fail
            refine (refSorted_any ao N cap out wr (by omega) hps).mono ?_
            rintro e w5 ⟨v5, x, rfl, ho5, hp5, hs5, hb5⟩
            have B5 := Below.chain hb hb5
            have fX : Fit x := fun q hq => HFit.out q (hp5.mem_iff.1 hq)
            obtain ⟨a5, c5, rfl, hps5, _⟩ := own_slice6 ho5 (hp5.length_eq.trans HN.out)
            have hI := refIs_any a5 N c5 x w5 (by omega) fX hps5
            have oX := ho5.base (b := w.heap.size) hb.size
            have HNO : Hid (¬ (fIs x = true ∧ fPrint x = s) → okParse s = false) := fun h => fin_no HF.out hp5 hs5 h
            clear ho5 hps ho hp5 hs5 hb5 HF HFit hb
            cases hi : fIs x with
            | false =>
              have HQ : Hid (okParse s = false) := HNO.out (fun h => by rw [hi] at h; cases h.1)
              rw [hi] at hI
              clear hi HNO
              go_wp2_with fail
              refine hI.mono ?_
              rintro e w6 ⟨rfl, hb6⟩
              go_wp2_with fail
              go_ret2
              exact ⟨_, by rw [HQ.out]; rfl, by rw [parseL_no HQ.out]; exact Own.none _ _, Below.chain B5 hb6⟩
            | true =>
              rw [hi] at hI
              have HI : Hid _ := hi
              clear hi
              go_wp2_with fail
              refine hI.mono ?_
              rintro e w6 ⟨rfl, hb6⟩
              have hP := refPrint_any a5 N c5 x w6 (by omega) fX (hps5.later hb6)
              have B6 := Below.chain B5 hb6
              have oX6 := oX.later hb6
              clear hI oX hps5 B5 hb6
              by_cases hp : fPrint x = s
              · have HQ : Hid (okParse s = true ∧ parseL s = x) := fin_yes HI.out hp
                have hp' : (fPrint x == s) = true := by simpa using hp
                have hp2 : (fPrint x != s) = false := by rw [bne, hp']; rfl
                clear hp HNO HI
                generalize fPrint x = y at *
                go_wp2_with fail
                refine hP.mono ?_
                rintro e w7 ⟨rfl, hb7⟩
                go_wp2_with fail
                go_ret2
                exact ⟨_, by rw [HQ.out.1]; rfl, by rw [HQ.out.2]; exact oX6.later hb7, Below.chain B6 hb7⟩
              · have HQ : Hid (okParse s = false) := HNO.out (fun h => hp h.2)
                have hp' : (fPrint x == s) = false := by simpa using hp
                have hp2 : (fPrint x != s) = true := by rw [bne, hp']; rfl
                clear hp HNO HI
                generalize fPrint x = y at *
                go_wp2_with fail
                refine hP.mono ?_
                rintro e w7 ⟨rfl, hb7⟩
                go_wp2_with fail
                go_ret2
                exact ⟨_, by rw [HQ.out]; rfl, by rw [parseL_no HQ.out]; exact Own.none _ _, Below.chain B6 hb7⟩
          · have ht' : (t == [125]) = false := by simpa using ht
            have ht2 : (t != [125]) = true := by rw [bne, ht']; rfl
            have HST : Hid _ := st_fact HS.out ht
            have HSN : Hid _ := st_next HS.out ht
            have hid := ident_any t wr (by omega)
            have hJl := idn_le t
            rw [show (t.takeWhile nameCh).length = idn t from rfl] at hid
            have hqa := fun (W : World) => quoted_any (t.drop (idn t + 1)) W (by simp; omega)
            have hqb := q_bound (t.drop (idn t + 1))
            have hx1 := ex_tail t (idn t + 1)
            have hx0 := ex_hd t (idn t)
            have hx2 := ex_tail t (idn t + 1 + qLen (t.drop (idn t + 1)))
            have hdl : (t.drop (idn t + 1)).length ≤ t.length - (idn t + 1) := by simp
            have hdl2 : (t.drop (idn t + 1 + qLen (t.drop (idn t + 1)))).length ≤ t.length - (idn t + 1 + qLen (t.drop (idn t + 1))) := by simp
            have htk : (t.take (idn t)).length ≤ t.length := by simp; omega
            generalize idn t = J at *
            generalize t.drop (J + 1) = r at *
            generalize qText r = qv at *
            generalize qLen r = qn at *
            generalize t.drop (J + 1 + qn) = t2 at *
            generalize t.take J = ta at *
            have hwr1 : IntKind.i64.wrap ((J : Int) + 1) = (J : Int) + 1 := by rw [IntKind.wrap_i64]; omega
            have hwr2 : IntKind.i64.wrap ((J : Int) + 1 + qn) = (J : Int) + 1 + qn := by rw [IntKind.wrap_i64]; omega
            have j3 : ((J : Int) + 1).toNat = J + 1 := by omega
            have j4 : ((J : Int) + 1 + qn).toNat = J + 1 + qn := by omega
            clear HS ht
            go_wp2_with fail
            refine hid.mono ?_
            rintro e w' ⟨rfl, rfl⟩
            clear hid
            by_cases hJ0 : J = 0
            · have HQ : Hid (okParse s = false) := nok fun ok => by have f := HST.out ok; exact f.1 hJ0
              have z : ((J : Int) == 0) = true := by rw [beq_iff_eq]; omega
              clear HST HSN hJ0
              go_wp2_with fail
              go_ret2
              exact ⟨_, by rw [HQ.out]; rfl, by rw [parseL_no HQ.out]; exact Own.none _ _, hb⟩
            · have z : ((J : Int) == 0) = false := by rw [beq_eq_false_iff_ne]; omega
              by_cases hJ1 : t.length ≤ J
              · have HQ : Hid (okParse s = false) := nok fun ok => by have f := HST.out ok; exact absurd f.2.1 (by omega)
                have z1 : (t.length : Int) ≤ J := by omega
                clear HST HSN hJ0
                go_wp2_with fail
                go_ret2
                exact ⟨_, by rw [HQ.out]; rfl, by rw [parseL_no HQ.out]; exact Own.none _ _, hb⟩
              · have z1 : ¬ (t.length : Int) ≤ J := by omega
                have hbJ := ba_lt (show J < t.length by omega)
                have HC : Hid (t.getD J 0 = (⟨t.toArray⟩ : ByteArray)[J]'hbJ) := by show _ = _; rw [List.getD_eq_getElem?_getD, List.getElem?_eq_getElem (show J < t.length by omega)]; rfl
                by_cases hc : (((⟨t.toArray⟩ : ByteArray)[J]'hbJ).toNat : Int) = 61
                · have hc' : ((((⟨t.toArray⟩ : ByteArray)[J]'hbJ).toNat : Int) == 61) = true := beq_iff_eq.2 hc
                  have hc2 : ((((⟨t.toArray⟩ : ByteArray)[J]'hbJ).toNat : Int) != 61) = false := by rw [bne, hc']; rfl
                  clear hc HC hJ0
                  have y1 : (J : Int) + 1 ≤ t.length := by omega
                  have y2 : ¬ ((J : Int) + 1 < 0) := by omega
                  go_wp2_with fail
                  refine (hqa _).mono ?_
                  rintro e w2 ⟨rfl, hb2⟩
                  have B2 := Below.chain hb hb2
                  have ho2 := ho.later hb2
                  clear hqa ho hb
                  by_cases hq0 : qn = 0
                  · have HQ : Hid (okParse s = false) := nok fun ok => by have f := HST.out ok; exact f.2.2.2.1 hq0
                    have zq : ((qn : Int) == 0) = true := by rw [beq_iff_eq]; omega
                    clear HST HSN hq0
                    go_wp2_with fail
                    go_ret2
                    exact ⟨_, by rw [HQ.out]; rfl, by rw [parseL_no HQ.out]; exact Own.none _ _, B2⟩
                  · have zq : ((qn : Int) == 0) = false := by rw [beq_eq_false_iff_ne]; omega
                    have y3 : (J : Int) + 1 + qn ≤ t.length := by omega
                    have y4 : ¬ ((J : Int) + 1 + qn < 0) := by omega
                    have y5 : (J : Int) ≤ t.length := by omega
                    have ho3 := ho2.later (bal (Below.refl _ _) (.cells #[tx ta, tx qv] 35))
                    have hb3 := bal B2 (.cells #[tx ta, tx qv] 35)
                    have HFit2 : Hid (Fit (out ++ [(ta, qv)])) := fun q hq => by
                      rcases List.mem_append.1 hq with h | h
                      · exact HFit.out q h
                      · rw [List.mem_singleton.1 h]; exact ⟨show ta.length ≤ _ by omega, show qv.length ≤ _ by omega⟩
                    clear ho2 B2
                    by_cases t0 : t2 = []
                    · have HQ : Hid (okParse s = false) := nok fun ok => by have f := HST.out ok; exact f.2.2.2.2.elim (fun h => by rw [t0] at h; cases h) (fun h => by rw [t0] at h; cases h.1)
                      have e0 : (t2 == []) = true := by simpa using t0
                      clear HST HSN t0 hq0
                      go_wp2_with (at_builtin; go_must (refine wp_app (w0 := w) rfl _ _ rfl w.heap.size _ out [(ta, qv)] (some ⟨w2.heap.size, 0, none⟩) 1 1 rfl rfl ho3 (Ps.one w2 (ta, qv)) hb3 (Nat.le_refl _) ?hN ?_))
                      case hN => omega
                      intro v7 w7 ho7 hb7
                      clear ho3 hb3
                      go_wp2_with fail
                      go_ret2
                      exact ⟨_, by rw [HQ.out]; rfl, by rw [parseL_no HQ.out]; exact Own.none _ _, hb7⟩
                    · have e0 : (t2 == []) = false := by simpa using t0
                      have hp2 : 0 < t2.length := List.length_pos_iff.2 t0
                      have hb0 := ba_lt hp2
                      have HH : Hid (t2.head? = some ((⟨t2.toArray⟩ : ByteArray)[0]'hb0)) := head_at hp2
                      have hx3 := ex_tail t2 1
                      by_cases t1 : t2 = [125]
                      · have HM : Hid (1 < t.length) := by show _ < _; omega
                        have HSX : Hid (st s [125] (out ++ [(ta, qv)])) := HSN.out.1 t1
                        subst t1
                        have hlen : (out ++ [(ta, qv)]).length + 1 ≤ s.length + 1 := by simp; omega
                        have HLN : Hid _ := hlen
                        clear HST HSN HH t0 hq0 hlen hdl2
                        go_wp2_with (at_builtin; go_must (refine wp_app (w0 := w) rfl _ _ rfl w.heap.size _ out [(ta, qv)] (some ⟨w2.heap.size, 0, none⟩) 1 1 rfl rfl ho3 (Ps.one w2 (ta, qv)) hb3 (Nat.le_refl _) ?hN ?_))
                        case hN => omega
                        intro v7 w7 ho7 hb7
                        clear ho3 hb3
                        go_wp2
                        go_roundw
                        case rel => exact ⟨[125], _, out ++ [(ta, qv)], by simp; omega, by simpa using HLN.out, rfl, rfl, ho7, HFit2, HSX, hb7⟩
                        case measure => rw [strLen_tx, strLen_tx]; exact HM.out
                      · have e1 : (t2 == [125]) = false := by simpa using t1
                        have e1n : (t2 != [125]) = true := by rw [bne, e1]; rfl
                        by_cases hk : (((⟨t2.toArray⟩ : ByteArray)[0]'hb0).toNat : Int) = 44
                        · have hk' : ((((⟨t2.toArray⟩ : ByteArray)[0]'hb0).toNat : Int) == 44) = true := beq_iff_eq.2 hk
                          have hkn : ((((⟨t2.toArray⟩ : ByteArray)[0]'hb0).toNat : Int) != 44) = false := by rw [bne, hk']; rfl
                          by_cases t3 : t2 = [44, 125]
                          · have HQ : Hid (okParse s = false) := nok fun ok => by have f := HST.out ok; exact f.2.2.2.2.elim (fun h => t1 h) (fun h => h.2 t3)
                            have e3 : (t2 == [44, 125]) = true := by simpa using t3
                            clear HST HSN t0 t1 t3 hk HH hq0
                            go_wp2_with (at_builtin; go_must (refine wp_app (w0 := w) rfl _ _ rfl w.heap.size _ out [(ta, qv)] (some ⟨w2.heap.size, 0, none⟩) 1 1 rfl rfl ho3 (Ps.one w2 (ta, qv)) hb3 (Nat.le_refl _) ?hN ?_))
                            case hN => omega
                            intro v7 w7 ho7 hb7
                            clear ho3 hb3
                            go_wp2_with fail
                            go_ret2
                            exact ⟨_, by rw [HQ.out]; rfl, by rw [parseL_no HQ.out]; exact Own.none _ _, hb7⟩
                          · have e3 : (t2 == [44, 125]) = false := by simpa using t3
                            have HSX : Hid (st s (t2.drop 1) (out ++ [(ta, qv)])) := HSN.out.2 (by rw [HH.out, byte_eq (k := 44) (by decide) hk]; rfl)
                            have hd1 : (t2.drop 1).length = t2.length - 1 := by simp
                            generalize t2.drop 1 = t4 at *
                            have g1 : t4.length ≤ s.length := by omega
                            have hlen : (out ++ [(ta, qv)]).length + t4.length ≤ s.length + 1 := by simp; omega
                            have HLN : Hid _ := hlen
                            have HM : Hid (t4.length < t.length) := by show _ < _; omega
                            have y6 : (1 : Int) ≤ t2.length := by omega
                            clear HST HSN HH t0 t1 t3 hk hq0 hlen hdl2 hd1
                            go_wp2_with (at_builtin; go_must (refine wp_app (w0 := w) rfl _ _ rfl w.heap.size _ out [(ta, qv)] (some ⟨w2.heap.size, 0, none⟩) 1 1 rfl rfl ho3 (Ps.one w2 (ta, qv)) hb3 (Nat.le_refl _) ?hN ?_))
                            case hN => omega
                            intro v7 w7 ho7 hb7
                            clear ho3 hb3
                            go_wp2
                            go_roundw
                            case rel => exact ⟨t4, _, out ++ [(ta, qv)], g1, HLN.out, rfl, rfl, ho7, HFit2, HSX, hb7⟩
                            case measure => rw [strLen_tx, strLen_tx]; exact HM.out
                        · have hk' : ((((⟨t2.toArray⟩ : ByteArray)[0]'hb0).toNat : Int) == 44) = false := beq_eq_false_iff_ne.2 hk
                          have hkn : ((((⟨t2.toArray⟩ : ByteArray)[0]'hb0).toNat : Int) != 44) = true := by rw [bne, hk']; rfl
                          have HQ : Hid (okParse s = false) := nok fun ok => by have f := HST.out ok; exact f.2.2.2.2.elim (fun h => t1 h) (fun h => by rw [HH.out] at h; exact byte_ne (k := 44) (by decide) hk (Option.some.inj h.1))
                          clear HST HSN t0 t1 hk HH hq0
                          go_wp2_with (at_builtin; go_must (refine wp_app (w0 := w) rfl _ _ rfl w.heap.size _ out [(ta, qv)] (some ⟨w2.heap.size, 0, none⟩) 1 1 rfl rfl ho3 (Ps.one w2 (ta, qv)) hb3 (Nat.le_refl _) ?hN ?_))
                          case hN => omega
                          intro v7 w7 ho7 hb7
                          clear ho3 hb3
                          go_wp2_with fail
                          go_ret2
                          exact ⟨_, by rw [HQ.out]; rfl, by rw [parseL_no HQ.out]; exact Own.none _ _, hb7⟩
                · have hc' : ((((⟨t.toArray⟩ : ByteArray)[J]'hbJ).toNat : Int) == 61) = false := beq_eq_false_iff_ne.2 hc
                  have hc2 : ((((⟨t.toArray⟩ : ByteArray)[J]'hbJ).toNat : Int) != 61) = true := by rw [bne, hc']; rfl
                  have HQ : Hid (okParse s = false) := nok fun ok => by have f := HST.out ok; rw [HC.out] at f; exact byte_ne (k := 61) (by decide) hc f.2.2.1
                  clear HST HSN hc HC hJ0
                  go_wp2_with fail
                  go_ret2
                  exact ⟨_, by rw [HQ.out]; rfl, by rw [parseL_no HQ.out]; exact Own.none _ _, hb⟩
      · have hk' : ((((⟨T.toArray⟩ : ByteArray)[0]'hb0).toNat : Int) == 123) = false := beq_eq_false_iff_ne.2 hk
        have hkn : ((((⟨T.toArray⟩ : ByteArray)[0]'hb0).toNat : Int) != 123) = true := by rw [bne, hk']; rfl
        have HQ : Hid (okParse s = false) := nok fun ok => by
          rcases st_first ok with h | h
          · rw [HK.out, ← HT.out] at h; exact hT h
          · rw [HK.out, ← HT.out, HH.out] at h; exact byte_ne (k := 123) (by decide) hk (Option.some.inj h)
        clear hk HH HT HK HO hT
        go_wp2_with fail
        go_ret2
        exact ⟨_, by rw [HQ.out]; rfl, by rw [parseL_no HQ.out]; exact Own.none _ _, hb⟩
  · have zk : (0 : Int) < K := by omega
    have HO : Hid ([(nm, ta0)] = hd s) := by show _ = _; rw [HD.out, if_neg hK0]
    have ho0 := (Own.none w w.heap.size).later (bal (Below.refl _ _) (.cells #[tx nm, tx ta0] 35))
    have hb0' := bal (Below.refl _ w) (.cells #[tx nm, tx ta0] 35)
    go_wp2_with (at_builtin; go_must (refine wp_app (w0 := w) rfl _ _ rfl w.heap.size _ [] [(nm, ta0)] (some ⟨w.heap.size, 0, none⟩) 1 1 rfl rfl ho0 (Ps.one w (nm, ta0)) hb0' (Nat.le_refl _) ?hN ?_))
    case hN => simp
    intro v W1 ho hb
    replace ho : Own W1 w.heap.size v [(nm, ta0)] := ho
    have HFit : Hid (Fit [(nm, ta0)]) := fun q hq => by rw [List.mem_singleton.1 hq]; exact ⟨show nm.length ≤ _ by decide, show ta0.length ≤ _ by omega⟩
    have hol0 : [(nm, ta0)].length ≤ 1 := by simp
    clear ho0 hb0' HD
    generalize [(nm, ta0)] = out at *
    by_cases hT : T = []
    · have HF : Hid (fin s out) := by rw [HO.out]; exact fin_short (by rw [HK.out]; exact HT.out.symm.trans hT)
      have e0 : (T == []) = true := by simpa using hT
      have e0n : (T != []) = false := by rw [bne, e0]; rfl
      have hol : out.length ≤ 2000 := by omega
      clear hT HT HK HO
      obtain ⟨N, hN⟩ : ∃ N, out.length = N := ⟨_, rfl⟩
      rw [hN] at hol
      have HN : Hid _ := hN
      clear hN
      obtain ⟨ao, cap, rfl, hps, _⟩ := own_slice6 ho HN.out
      go_wp2_with fail
      refine (refSorted_any ao N cap out W1 (by omega) hps).mono ?_
      rintro e w5 ⟨v5, x, rfl, ho5, hp5, hs5, hb5⟩
      have B5 := Below.chain hb hb5
      have fX : Fit x := fun q hq => HFit.out q (hp5.mem_iff.1 hq)
      obtain ⟨a5, c5, rfl, hps5, _⟩ := own_slice6 ho5 (hp5.length_eq.trans HN.out)
      have hI := refIs_any a5 N c5 x w5 (by omega) fX hps5
      have oX := ho5.base (b := w.heap.size) hb.size
      have HNO : Hid (¬ (fIs x = true ∧ fPrint x = s) → okParse s = false) := fun h => fin_no HF.out hp5 hs5 h
      clear ho5 hps ho hp5 hs5 hb5 HF HFit hb
      cases hi : fIs x with
      | false =>
        have HQ : Hid (okParse s = false) := HNO.out (fun h => by rw [hi] at h; cases h.1)
        rw [hi] at hI
        clear hi HNO
        go_wp2_with fail
        refine hI.mono ?_
        rintro e w6 ⟨rfl, hb6⟩
        go_wp2_with fail
        go_ret2
        exact ⟨_, by rw [HQ.out]; rfl, by rw [parseL_no HQ.out]; exact Own.none _ _, Below.chain B5 hb6⟩
      | true =>
        rw [hi] at hI
        have HI : Hid _ := hi
        clear hi
        go_wp2_with fail
        refine hI.mono ?_
        rintro e w6 ⟨rfl, hb6⟩
        have hP := refPrint_any a5 N c5 x w6 (by omega) fX (hps5.later hb6)
        have B6 := Below.chain B5 hb6
        have oX6 := oX.later hb6
        clear hI oX hps5 B5 hb6
        by_cases hp : fPrint x = s
        · have HQ : Hid (okParse s = true ∧ parseL s = x) := fin_yes HI.out hp
          have hp' : (fPrint x == s) = true := by simpa using hp
          have hp2 : (fPrint x != s) = false := by rw [bne, hp']; rfl
          clear hp HNO HI
          generalize fPrint x = y at *
          go_wp2_with fail
          refine hP.mono ?_
          rintro e w7 ⟨rfl, hb7⟩
          go_wp2_with fail
          go_ret2
          exact ⟨_, by rw [HQ.out.1]; rfl, by rw [HQ.out.2]; exact oX6.later hb7, Below.chain B6 hb7⟩
        · have HQ : Hid (okParse s = false) := HNO.out (fun h => hp h.2)
          have hp' : (fPrint x == s) = false := by simpa using hp
          have hp2 : (fPrint x != s) = true := by rw [bne, hp']; rfl
          clear hp HNO HI
          generalize fPrint x = y at *
          go_wp2_with fail
          refine hP.mono ?_
          rintro e w7 ⟨rfl, hb7⟩
          go_wp2_with fail
          go_ret2
          exact ⟨_, by rw [HQ.out]; rfl, by rw [parseL_no HQ.out]; exact Own.none _ _, Below.chain B6 hb7⟩
    · have e0 : (T == []) = false := by simpa using hT
      have e0n : (T != []) = true := by rw [bne, e0]; rfl
      have hTp : 0 < T.length := List.length_pos_iff.2 hT
      have hb0 := ba_lt hTp
      have HH : Hid (T.head? = some ((⟨T.toArray⟩ : ByteArray)[0]'hb0)) := head_at hTp
      have hx3 := ex_tail T 1
      by_cases hk : (((⟨T.toArray⟩ : ByteArray)[0]'hb0).toNat : Int) = 123
      · have hk' : ((((⟨T.toArray⟩ : ByteArray)[0]'hb0).toNat : Int) == 123) = true := beq_iff_eq.2 hk
        have hkn : ((((⟨T.toArray⟩ : ByteArray)[0]'hb0).toNat : Int) != 123) = false := by rw [bne, hk']; rfl
        have HS0 : Hid (st s (T.drop 1) out) := by
          have := st_start (s := s) (by rw [HK.out, ← HT.out, HH.out, byte_eq (k := 123) (by decide) hk]; rfl)
          rw [HK.out, ← HT.out, ← HO.out] at this
          exact this
        have hd1 : (T.drop 1).length = T.length - 1 := by simp
        have htl : (T.drop 1).length ≤ s.length := by omega
        have hot : out.length + (T.drop 1).length ≤ s.length + 1 := by omega
        have hol : out.length ≤ 2000 := by omega
        have y1 : (1 : Int) ≤ T.length := by omega
        generalize T.drop 1 = T1 at *
        clear hk HH HT HK HO hT hd1
        go_wp2_with fail
        go_loopw [6, 4] (fun tv u wr => ∃ (t : Str) (v : Value) (out : List Pr), t.length ≤ s.length ∧ out.length + t.length ≤ s.length + 1 ∧ tv = tx t ∧ v = u ∧ Own wr w.heap.size v out ∧ Hid (Fit out) ∧ Hid (st s t out) ∧ Below w.heap.size w wr) (fun tv _ _ => strLen tv)
        case atStart => exact ⟨_, _, out, htl, hot, rfl, rfl, ho, HFit, HS0, hb⟩
        case round =>
          clear ho hb HFit HS0 htl hot hol
          obtain ⟨t, v, out, htl, hot, rfl, rfl, ho, HFit, HS, hb⟩ := hrel
          by_cases ht : t = [125]
          · have HF : Hid (fin s out) := by have := HS.out; rw [ht] at this; exact fin_loop this
            have ht' : (t == [125]) = true := by simpa using ht
            have ht2 : (t != [125]) = false := by rw [bne, ht']; rfl
            have hol : out.length ≤ 2000 := by omega
            clear ht HS
            obtain ⟨N, hN⟩ : ∃ N, out.length = N := ⟨_, rfl⟩
            rw [hN] at hol
            have HN : Hid _ := hN
            clear hN
            obtain ⟨ao, cap, rfl, hps, _⟩ := own_slice6 ho HN.out
            go_wp2_with fail
            refine (refSorted_any ao N cap out wr (by omega) hps).mono ?_
            rintro e w5 ⟨v5, x, rfl, ho5, hp5, hs5, hb5⟩
            have B5 := Below.chain hb hb5
            have fX : Fit x := fun q hq => HFit.out q (hp5.mem_iff.1 hq)
            obtain ⟨a5, c5, rfl, hps5, _⟩ := own_slice6 ho5 (hp5.length_eq.trans HN.out)
            have hI := refIs_any a5 N c5 x w5 (by omega) fX hps5
            have oX := ho5.base (b := w.heap.size) hb.size
            have HNO : Hid (¬ (fIs x = true ∧ fPrint x = s) → okParse s = false) := fun h => fin_no HF.out hp5 hs5 h
            clear ho5 hps ho hp5 hs5 hb5 HF HFit hb
            cases hi : fIs x with
            | false =>
              have HQ : Hid (okParse s = false) := HNO.out (fun h => by rw [hi] at h; cases h.1)
              rw [hi] at hI
              clear hi HNO
              go_wp2_with fail
              refine hI.mono ?_
              rintro e w6 ⟨rfl, hb6⟩
              go_wp2_with fail
              go_ret2
              exact ⟨_, by rw [HQ.out]; rfl, by rw [parseL_no HQ.out]; exact Own.none _ _, Below.chain B5 hb6⟩
            | true =>
              rw [hi] at hI
              have HI : Hid _ := hi
              clear hi
              go_wp2_with fail
              refine hI.mono ?_
              rintro e w6 ⟨rfl, hb6⟩
              have hP := refPrint_any a5 N c5 x w6 (by omega) fX (hps5.later hb6)
              have B6 := Below.chain B5 hb6
              have oX6 := oX.later hb6
              clear hI oX hps5 B5 hb6
              by_cases hp : fPrint x = s
              · have HQ : Hid (okParse s = true ∧ parseL s = x) := fin_yes HI.out hp
                have hp' : (fPrint x == s) = true := by simpa using hp
                have hp2 : (fPrint x != s) = false := by rw [bne, hp']; rfl
                clear hp HNO HI
                generalize fPrint x = y at *
                go_wp2_with fail
                refine hP.mono ?_
                rintro e w7 ⟨rfl, hb7⟩
                go_wp2_with fail
                go_ret2
                exact ⟨_, by rw [HQ.out.1]; rfl, by rw [HQ.out.2]; exact oX6.later hb7, Below.chain B6 hb7⟩
              · have HQ : Hid (okParse s = false) := HNO.out (fun h => hp h.2)
                have hp' : (fPrint x == s) = false := by simpa using hp
                have hp2 : (fPrint x != s) = true := by rw [bne, hp']; rfl
                clear hp HNO HI
                generalize fPrint x = y at *
                go_wp2_with fail
                refine hP.mono ?_
                rintro e w7 ⟨rfl, hb7⟩
                go_wp2_with fail
                go_ret2
                exact ⟨_, by rw [HQ.out]; rfl, by rw [parseL_no HQ.out]; exact Own.none _ _, Below.chain B6 hb7⟩
          · have ht' : (t == [125]) = false := by simpa using ht
            have ht2 : (t != [125]) = true := by rw [bne, ht']; rfl
            have HST : Hid _ := st_fact HS.out ht
            have HSN : Hid _ := st_next HS.out ht
            have hid := ident_any t wr (by omega)
            have hJl := idn_le t
            rw [show (t.takeWhile nameCh).length = idn t from rfl] at hid
            have hqa := fun (W : World) => quoted_any (t.drop (idn t + 1)) W (by simp; omega)
            have hqb := q_bound (t.drop (idn t + 1))
            have hx1 := ex_tail t (idn t + 1)
            have hx0 := ex_hd t (idn t)
            have hx2 := ex_tail t (idn t + 1 + qLen (t.drop (idn t + 1)))
            have hdl : (t.drop (idn t + 1)).length ≤ t.length - (idn t + 1) := by simp
            have hdl2 : (t.drop (idn t + 1 + qLen (t.drop (idn t + 1)))).length ≤ t.length - (idn t + 1 + qLen (t.drop (idn t + 1))) := by simp
            have htk : (t.take (idn t)).length ≤ t.length := by simp; omega
            generalize idn t = J at *
            generalize t.drop (J + 1) = r at *
            generalize qText r = qv at *
            generalize qLen r = qn at *
            generalize t.drop (J + 1 + qn) = t2 at *
            generalize t.take J = ta at *
            have hwr1 : IntKind.i64.wrap ((J : Int) + 1) = (J : Int) + 1 := by rw [IntKind.wrap_i64]; omega
            have hwr2 : IntKind.i64.wrap ((J : Int) + 1 + qn) = (J : Int) + 1 + qn := by rw [IntKind.wrap_i64]; omega
            have j3 : ((J : Int) + 1).toNat = J + 1 := by omega
            have j4 : ((J : Int) + 1 + qn).toNat = J + 1 + qn := by omega
            clear HS ht
            go_wp2_with fail
            refine hid.mono ?_
            rintro e w' ⟨rfl, rfl⟩
            clear hid
            by_cases hJ0 : J = 0
            · have HQ : Hid (okParse s = false) := nok fun ok => by have f := HST.out ok; exact f.1 hJ0
              have z : ((J : Int) == 0) = true := by rw [beq_iff_eq]; omega
              clear HST HSN hJ0
              go_wp2_with fail
              go_ret2
              exact ⟨_, by rw [HQ.out]; rfl, by rw [parseL_no HQ.out]; exact Own.none _ _, hb⟩
            · have z : ((J : Int) == 0) = false := by rw [beq_eq_false_iff_ne]; omega
              by_cases hJ1 : t.length ≤ J
              · have HQ : Hid (okParse s = false) := nok fun ok => by have f := HST.out ok; exact absurd f.2.1 (by omega)
                have z1 : (t.length : Int) ≤ J := by omega
                clear HST HSN hJ0
                go_wp2_with fail
                go_ret2
                exact ⟨_, by rw [HQ.out]; rfl, by rw [parseL_no HQ.out]; exact Own.none _ _, hb⟩
              · have z1 : ¬ (t.length : Int) ≤ J := by omega
                have hbJ := ba_lt (show J < t.length by omega)
                have HC : Hid (t.getD J 0 = (⟨t.toArray⟩ : ByteArray)[J]'hbJ) := by show _ = _; rw [List.getD_eq_getElem?_getD, List.getElem?_eq_getElem (show J < t.length by omega)]; rfl
                by_cases hc : (((⟨t.toArray⟩ : ByteArray)[J]'hbJ).toNat : Int) = 61
                · have hc' : ((((⟨t.toArray⟩ : ByteArray)[J]'hbJ).toNat : Int) == 61) = true := beq_iff_eq.2 hc
                  have hc2 : ((((⟨t.toArray⟩ : ByteArray)[J]'hbJ).toNat : Int) != 61) = false := by rw [bne, hc']; rfl
                  clear hc HC hJ0
                  have y1 : (J : Int) + 1 ≤ t.length := by omega
                  have y2 : ¬ ((J : Int) + 1 < 0) := by omega
                  go_wp2_with fail
                  refine (hqa _).mono ?_
                  rintro e w2 ⟨rfl, hb2⟩
                  have B2 := Below.chain hb hb2
                  have ho2 := ho.later hb2
                  clear hqa ho hb
                  by_cases hq0 : qn = 0
                  · have HQ : Hid (okParse s = false) := nok fun ok => by have f := HST.out ok; exact f.2.2.2.1 hq0
                    have zq : ((qn : Int) == 0) = true := by rw [beq_iff_eq]; omega
                    clear HST HSN hq0
                    go_wp2_with fail
                    go_ret2
                    exact ⟨_, by rw [HQ.out]; rfl, by rw [parseL_no HQ.out]; exact Own.none _ _, B2⟩
                  · have zq : ((qn : Int) == 0) = false := by rw [beq_eq_false_iff_ne]; omega
                    have y3 : (J : Int) + 1 + qn ≤ t.length := by omega
                    have y4 : ¬ ((J : Int) + 1 + qn < 0) := by omega
                    have y5 : (J : Int) ≤ t.length := by omega
                    have ho3 := ho2.later (bal (Below.refl _ _) (.cells #[tx ta, tx qv] 35))
                    have hb3 := bal B2 (.cells #[tx ta, tx qv] 35)
                    have HFit2 : Hid (Fit (out ++ [(ta, qv)])) := fun q hq => by
                      rcases List.mem_append.1 hq with h | h
                      · exact HFit.out q h
                      · rw [List.mem_singleton.1 h]; exact ⟨show ta.length ≤ _ by omega, show qv.length ≤ _ by omega⟩
                    clear ho2 B2
                    by_cases t0 : t2 = []
                    · have HQ : Hid (okParse s = false) := nok fun ok => by have f := HST.out ok; exact f.2.2.2.2.elim (fun h => by rw [t0] at h; cases h) (fun h => by rw [t0] at h; cases h.1)
                      have e0 : (t2 == []) = true := by simpa using t0
                      clear HST HSN t0 hq0
                      go_wp2_with (at_builtin; go_must (refine wp_app (w0 := w) rfl _ _ rfl w.heap.size _ out [(ta, qv)] (some ⟨w2.heap.size, 0, none⟩) 1 1 rfl rfl ho3 (Ps.one w2 (ta, qv)) hb3 (Nat.le_refl _) ?hN ?_))
                      case hN => omega
                      intro v7 w7 ho7 hb7
                      clear ho3 hb3
                      go_wp2_with fail
                      go_ret2
                      exact ⟨_, by rw [HQ.out]; rfl, by rw [parseL_no HQ.out]; exact Own.none _ _, hb7⟩
                    · have e0 : (t2 == []) = false := by simpa using t0
                      have hp2 : 0 < t2.length := List.length_pos_iff.2 t0
                      have hb0 := ba_lt hp2
                      have HH : Hid (t2.head? = some ((⟨t2.toArray⟩ : ByteArray)[0]'hb0)) := head_at hp2
                      have hx3 := ex_tail t2 1
                      by_cases t1 : t2 = [125]
                      · have HM : Hid (1 < t.length) := by show _ < _; omega
                        have HSX : Hid (st s [125] (out ++ [(ta, qv)])) := HSN.out.1 t1
                        subst t1
                        have hlen : (out ++ [(ta, qv)]).length + 1 ≤ s.length + 1 := by simp; omega
                        have HLN : Hid _ := hlen
                        clear HST HSN HH t0 hq0 hlen hdl2
                        go_wp2_with (at_builtin; go_must (refine wp_app (w0 := w) rfl _ _ rfl w.heap.size _ out [(ta, qv)] (some ⟨w2.heap.size, 0, none⟩) 1 1 rfl rfl ho3 (Ps.one w2 (ta, qv)) hb3 (Nat.le_refl _) ?hN ?_))
                        case hN => omega
                        intro v7 w7 ho7 hb7
                        clear ho3 hb3
                        go_wp2
                        go_roundw
                        case rel => exact ⟨[125], _, out ++ [(ta, qv)], by simp; omega, by simpa using HLN.out, rfl, rfl, ho7, HFit2, HSX, hb7⟩
                        case measure => rw [strLen_tx, strLen_tx]; exact HM.out
                      · have e1 : (t2 == [125]) = false := by simpa using t1
                        have e1n : (t2 != [125]) = true := by rw [bne, e1]; rfl
                        by_cases hk : (((⟨t2.toArray⟩ : ByteArray)[0]'hb0).toNat : Int) = 44
                        · have hk' : ((((⟨t2.toArray⟩ : ByteArray)[0]'hb0).toNat : Int) == 44) = true := beq_iff_eq.2 hk
                          have hkn : ((((⟨t2.toArray⟩ : ByteArray)[0]'hb0).toNat : Int) != 44) = false := by rw [bne, hk']; rfl
                          by_cases t3 : t2 = [44, 125]
                          · have HQ : Hid (okParse s = false) := nok fun ok => by have f := HST.out ok; exact f.2.2.2.2.elim (fun h => t1 h) (fun h => h.2 t3)
                            have e3 : (t2 == [44, 125]) = true := by simpa using t3
                            clear HST HSN t0 t1 t3 hk HH hq0
                            go_wp2_with (at_builtin; go_must (refine wp_app (w0 := w) rfl _ _ rfl w.heap.size _ out [(ta, qv)] (some ⟨w2.heap.size, 0, none⟩) 1 1 rfl rfl ho3 (Ps.one w2 (ta, qv)) hb3 (Nat.le_refl _) ?hN ?_))
                            case hN => omega
                            intro v7 w7 ho7 hb7
                            clear ho3 hb3
                            go_wp2_with fail
                            go_ret2
                            exact ⟨_, by rw [HQ.out]; rfl, by rw [parseL_no HQ.out]; exact Own.none _ _, hb7⟩
                          · have e3 : (t2 == [44, 125]) = false := by simpa using t3
                            have HSX : Hid (st s (t2.drop 1) (out ++ [(ta, qv)])) := HSN.out.2 (by rw [HH.out, byte_eq (k := 44) (by decide) hk]; rfl)
                            have hd1 : (t2.drop 1).length = t2.length - 1 := by simp
                            generalize t2.drop 1 = t4 at *
                            have g1 : t4.length ≤ s.length := by omega
                            have hlen : (out ++ [(ta, qv)]).length + t4.length ≤ s.length + 1 := by simp; omega
                            have HLN : Hid _ := hlen
                            have HM : Hid (t4.length < t.length) := by show _ < _; omega
                            have y6 : (1 : Int) ≤ t2.length := by omega
                            clear HST HSN HH t0 t1 t3 hk hq0 hlen hdl2 hd1
                            go_wp2_with (at_builtin; go_must (refine wp_app (w0 := w) rfl _ _ rfl w.heap.size _ out [(ta, qv)] (some ⟨w2.heap.size, 0, none⟩) 1 1 rfl rfl ho3 (Ps.one w2 (ta, qv)) hb3 (Nat.le_refl _) ?hN ?_))
                            case hN => omega
                            intro v7 w7 ho7 hb7
                            clear ho3 hb3
                            go_wp2
                            go_roundw
                            case rel => exact ⟨t4, _, out ++ [(ta, qv)], g1, HLN.out, rfl, rfl, ho7, HFit2, HSX, hb7⟩
                            case measure => rw [strLen_tx, strLen_tx]; exact HM.out
                        · have hk' : ((((⟨t2.toArray⟩ : ByteArray)[0]'hb0).toNat : Int) == 44) = false := beq_eq_false_iff_ne.2 hk
                          have hkn : ((((⟨t2.toArray⟩ : ByteArray)[0]'hb0).toNat : Int) != 44) = true := by rw [bne, hk']; rfl
                          have HQ : Hid (okParse s = false) := nok fun ok => by have f := HST.out ok; exact f.2.2.2.2.elim (fun h => t1 h) (fun h => by rw [HH.out] at h; exact byte_ne (k := 44) (by decide) hk (Option.some.inj h.1))
                          clear HST HSN t0 t1 hk HH hq0
                          go_wp2_with (at_builtin; go_must (refine wp_app (w0 := w) rfl _ _ rfl w.heap.size _ out [(ta, qv)] (some ⟨w2.heap.size, 0, none⟩) 1 1 rfl rfl ho3 (Ps.one w2 (ta, qv)) hb3 (Nat.le_refl _) ?hN ?_))
                          case hN => omega
                          intro v7 w7 ho7 hb7
                          clear ho3 hb3
                          go_wp2_with fail
                          go_ret2
                          exact ⟨_, by rw [HQ.out]; rfl, by rw [parseL_no HQ.out]; exact Own.none _ _, hb7⟩
                · have hc' : ((((⟨t.toArray⟩ : ByteArray)[J]'hbJ).toNat : Int) == 61) = false := beq_eq_false_iff_ne.2 hc
                  have hc2 : ((((⟨t.toArray⟩ : ByteArray)[J]'hbJ).toNat : Int) != 61) = true := by rw [bne, hc']; rfl
                  have HQ : Hid (okParse s = false) := nok fun ok => by have f := HST.out ok; rw [HC.out] at f; exact byte_ne (k := 61) (by decide) hc f.2.2.1
                  clear HST HSN hc HC hJ0
                  go_wp2_with fail
                  go_ret2
                  exact ⟨_, by rw [HQ.out]; rfl, by rw [parseL_no HQ.out]; exact Own.none _ _, hb⟩
      · have hk' : ((((⟨T.toArray⟩ : ByteArray)[0]'hb0).toNat : Int) == 123) = false := beq_eq_false_iff_ne.2 hk
        have hkn : ((((⟨T.toArray⟩ : ByteArray)[0]'hb0).toNat : Int) != 123) = true := by rw [bne, hk']; rfl
        have HQ : Hid (okParse s = false) := nok fun ok => by
          rcases st_first ok with h | h
          · rw [HK.out, ← HT.out] at h; exact hT h
          · rw [HK.out, ← HT.out, HH.out] at h; exact byte_ne (k := 123) (by decide) hk (Option.some.inj h)
        clear hk HH HT HK HO hT
        go_wp2_with fail
        go_ret2
        exact ⟨_, by rw [HQ.out]; rfl, by rw [parseL_no HQ.out]; exact Own.none _ _, hb⟩
end Go.Proofs.YtmhpmlfpflkgbaaDoor
