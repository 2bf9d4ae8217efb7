/- Texts that the others lean on. -/
import Derived.Test.YteankdaegdhfiaaGreatDoorKXRefTok0
namespace Go.Proofs.YteankdaegdhfiaaGreatDoor
open Go.RowKit
set_option maxHeartbeats 16000000 in
set_option maxRecDepth 20000 in
theorem refNumber_any (s : Str) (w : World) (hs : s.length ≤ 1000) : Calls Tryz.prog 105 #[tx s] w fun e w' => e = .returned (rt (tkAmt s)) ∧ Below w.heap.size w w' := by
 have hb0 : Below w.heap.size w (w.alloc (.cells #[.int .i64 0, .int .i64 0, .string ⟨#[]⟩, .bool false, .int .i64 0, .int .i64 0] 39)) := bal (Below.refl _ _) _
 have hx := BoxT.new0 w
 have hdg := fun c W => rdigit_any c W
 go_enter Tryz.func105, Tryz.ntmps105
 go_wp2_with fail
 go_loop [4] (fun i => ∃ k : Nat, k ≤ s.length ∧ i = .int .i64 k ∧ Hid (∀ i (hi : i < s.length), i < k → digB s[i] = true)) (fun i => s.length - (intOf i).toNat)
 case atStart => exact ⟨0, by omega, rfl, fun i h h2 => by omega⟩
 case round =>
  obtain ⟨k, hk, rfl, ha⟩ := hrel
  by_cases hlt : k < s.length
  ·
   have hbk := ba_lt hlt
   have HC : Hid (s[k] = (⟨s.toArray⟩ : ByteArray)[k]'hbk) := rfl
   have hdk := hdg ((⟨s.toArray⟩ : ByteArray)[k]'hbk)
   cases hc : digB ((⟨s.toArray⟩ : ByteArray)[k]'hbk) with
   | true =>
    rw [hc] at hdk
    have HR : Hid (∀ i (hi : i < s.length), i < k + 1 → digB s[i] = true) := fun i hi h => by
     by_cases e : i = k
     ·
      subst e; rw [HC.out]; exact hc
     ·
      exact ha.out i hi (by omega)
    clear ha HC hc
    go_wp2_with fail
    refine (hdk _).mono ?_
    rintro e w1 ⟨rfl, rfl⟩
    go_wp2
    go_round
    case rel => exact ⟨k + 1, by omega, by go_num, HR⟩
    case measure => simp [intOf]; omega
   | false =>
    rw [hc] at hdk
    have HG : Hid (dgN s = k) := run_len hk ha.out (fun _ => by rw [HC.out]; exact hc)
    clear hc
    go_wp2_with fail
    refine (hdk _).mono ?_
    rintro e w1 ⟨rfl, rfl⟩
    by_cases h116 : (((⟨s.toArray⟩ : ByteArray)[k]'hbk).toNat : Int) = 116
    ·
     have h116' : ((((⟨s.toArray⟩ : ByteArray)[k]'hbk).toNat : Int) == 116) = true := beq_iff_eq.2 h116
     have HT : Hid (tkAmt s = tkDur (s.take k)) := by
      show _ = _
      rw [amt_dur (by rw [HG.out, drop_head hlt, HC.out, byte_eq (k := 116) (by decide) h116]; rfl), HG.out]
     have hlen : (s.take k).length = k := by rw [List.length_take]; omega
     have hwh := fun W => xwhole_any (s.take k) W (by omega)
     have hex : (⟨s.toArray⟩ : ByteArray).extract 0 k = ⟨(s.take k).toArray⟩ := Fx.ba_take s k
     have hk' : (k : Int) ≤ s.length := by omega
     have hdu := wOk_du (s.take k)
     have hwy : wOk (s.take k) = true → wI (s.take k) = (Fx.rd (s.take k) : Int) := wI_yes
     have hwn : wOk (s.take k) = false → wI (s.take k) = -1 := wI_no
     clear h116 HG HC ha
     by_cases hdo : duOk (s.take k) = true
     ·
      obtain ⟨d1, d2, d3⟩ := hdu.1 hdo
      have HR : Hid ((tkAmt s).getD (tk0, 0) = (tDur (wI (s.take k)), k + 1)) := by
       show _ = _
       rw [HT.out]
       unfold tkDur
       rw [if_pos hdo, hwy d1, hlen]
       rfl
      clear HT hdo hdu hwy hwn d1 hlen
      generalize wI (s.take k) = D at *
      generalize s.take k = u at *
      go_wp2_with fail
      refine (hwh _).mono ?_
      rintro e w1 ⟨rfl, rfl⟩
      go_wp2
      exact bodyPost_ret (v := .tuple #[.agg #[.int .i64 3, .int .i64 0, .string ⟨#[]⟩, .bool false, .int .i64 0, .int .i64 D], .int .i64 ((k + 1 : Nat) : Int)]) (by simp [results, Tryz.results105, go_sem]) rfl ⟨by rw [rt_of HR.out]; rfl, bal (Below.refl _ _) _⟩
     ·
      have HR : Hid ((tkAmt s).getD (tk0, 0) = (tk0, 0)) := by
       show _ = _
       rw [HT.out]
       unfold tkDur
       rw [if_neg hdo]
       rfl
      have hw2 : wI (s.take k) < 1 ∨ 100 < wI (s.take k) := by
       cases hwo : wOk (s.take k) with
       | false => rw [hwn hwo]; exact Or.inl (by omega)
       | true =>
        by_cases h1 : 1 ≤ wI (s.take k)
        ·
         by_cases h2 : wI (s.take k) ≤ 100
         ·
          exact absurd (hdu.2 ⟨hwo, h1, h2⟩) hdo
         ·
          exact Or.inr (by omega)
        ·
         exact Or.inl (by omega)
      clear HT hdo hdu hwy hwn hlen
      generalize wI (s.take k) = D at *
      generalize s.take k = u at *
      by_cases h1 : D < 1
      ·
       clear hw2
       go_wp2_with fail
       refine (hwh _).mono ?_
       rintro e w1 ⟨rfl, rfl⟩
       go_wp2
       exact bodyPost_ret (v := .tuple #[.agg #[.int .i64 0, .int .i64 0, .string ⟨#[]⟩, .bool false, .int .i64 0, .int .i64 0], .int .i64 0]) (by simp [results, Tryz.results105, go_sem]) rfl ⟨by rw [rt_of HR.out]; rfl, bal (Below.refl _ _) _⟩
      ·
       have h2 : 100 < D := by omega
       clear hw2
       go_wp2_with fail
       refine (hwh _).mono ?_
       rintro e w1 ⟨rfl, rfl⟩
       go_wp2
       exact bodyPost_ret (v := .tuple #[.agg #[.int .i64 0, .int .i64 0, .string ⟨#[]⟩, .bool false, .int .i64 0, .int .i64 0], .int .i64 0]) (by simp [results, Tryz.results105, go_sem]) rfl ⟨by rw [rt_of HR.out]; rfl, bal (Below.refl _ _) _⟩
    ·
     have h116' : ((((⟨s.toArray⟩ : ByteArray)[k]'hbk).toNat : Int) == 116) = false := beq_eq_false_iff_ne.2 h116
     have ht : ¬ (s.drop k).head? = some 116 := by
      rw [drop_head hlt, HC.out]
      intro e
      exact byte_ne (k := 116) (by decide) h116 (Option.some.inj e)
     clear h116
     by_cases hk1 : k + 1 < s.length
     ·
      have hk1' : (k : Int) + 1 < s.length := by omega
      by_cases h46 : (((⟨s.toArray⟩ : ByteArray)[k]'hbk).toNat : Int) = 46
      ·
       have h46' : ((((⟨s.toArray⟩ : ByteArray)[k]'hbk).toNat : Int) == 46) = true := beq_iff_eq.2 h46
       have e46 : s[k] = 46 := by rw [HC.out]; exact byte_eq (k := 46) (by decide) h46
       have hbk1 := ba_lt hk1
       have HC1 : Hid (s[k + 1] = (⟨s.toArray⟩ : ByteArray)[k + 1]'hbk1) := rfl
       have hix : ∀ W, (Instr.index 9 (tx s) (.int .i64 ((k : Int) + 1))).run Tryz.prog W = .ok (by8 ((⟨s.toArray⟩ : ByteArray)[k + 1]'hbk1)) W := fun W => index_at s (k + 1) hbk1 W
       have hdk1 := hdg ((⟨s.toArray⟩ : ByteArray)[k + 1]'hbk1)
       clear h46
       cases hc1 : digB ((⟨s.toArray⟩ : ByteArray)[k + 1]'hbk1) with
       | true =>
        rw [hc1] at hdk1
        have HT0 : Hid (tkAmt s = tkNum (s.take (k + (1 + dgN (s.drop (k + 1)))))) := by
         show _ = _
         rw [amt_num (by rw [HG.out]; exact ht), HG.out, decN_yes hk1 e46 (by rw [HC1.out]; exact hc1)]
        clear HG ha ht hc1 e46 HC HC1
        go_wp2_with fail
        refine (hdk1 _).mono ?_
        rintro e w1 ⟨rfl, rfl⟩
        clear hdk1 hix
        go_wp2_with fail
        go_loop [4] (fun i => ∃ N : Nat, k + 1 ≤ N ∧ N ≤ s.length ∧ i = .int .i64 N ∧ Hid (∀ i (hi : i < (s.drop (k + 1)).length), i < N - (k + 1) → digB (s.drop (k + 1))[i] = true)) (fun i => s.length - (intOf i).toNat)
        case atStart => exact ⟨k + 1, by omega, by omega, by go_num, fun i h h2 => by omega⟩
        case round =>
         obtain ⟨N, hN1, hNl, rfl, hq⟩ := hrel
         by_cases hlN : N < s.length
         ·
          have hbN := ba_lt hlN
          have HCN : Hid (∀ h : N - (k + 1) < (s.drop (k + 1)).length, (s.drop (k + 1))[N - (k + 1)] = (⟨s.toArray⟩ : ByteArray)[N]'hbN) := fun h => by
           rw [List.getElem_drop]
           show s[k + 1 + (N - (k + 1))] = s[N]
           congr 1
           omega
          have hdN := hdg ((⟨s.toArray⟩ : ByteArray)[N]'hbN)
          cases hcN : digB ((⟨s.toArray⟩ : ByteArray)[N]'hbN) with
          | true =>
           rw [hcN] at hdN
           have HR : Hid (∀ i (hi : i < (s.drop (k + 1)).length), i < N + 1 - (k + 1) → digB (s.drop (k + 1))[i] = true) := fun i hi h => by
            by_cases e : i = N - (k + 1)
            ·
             subst e; rw [HCN.out hi]; exact hcN
            ·
             exact hq.out i hi (by omega)
           clear hq HCN hcN HT0
           go_wp2_with fail
           refine (hdN _).mono ?_
           rintro e w1 ⟨rfl, rfl⟩
           go_wp2
           go_round
           case rel => exact ⟨N + 1, by omega, by omega, by go_num, HR⟩
           case measure => simp [intOf]; omega
          | false =>
           rw [hcN] at hdN
           have HGN : dgN (s.drop (k + 1)) = N - (k + 1) := run_len (by simp; omega) hq.out (fun h => by rw [HCN.out h]; exact hcN)
           have HT : Hid (tkAmt s = tkNum (s.take N)) := by
            show _ = _
            rw [HT0.out, HGN, show k + (1 + (N - (k + 1))) = N by omega]
           clear hq HCN hcN HT0 HGN
           go_wp2_with fail
           refine (hdN _).mono ?_
           rintro e w1 ⟨rfl, rfl⟩
           clear hdN
           have hp := Fx.rparse_any (s.take N) (w.alloc (.cells #[.int .i64 0, .int .i64 0, .string ⟨#[]⟩, .bool false, .int .i64 0, .int .i64 0] 39)) (by simp; omega)
           have hexN : (⟨s.toArray⟩ : ByteArray).extract 0 N = ⟨(s.take N).toArray⟩ := Fx.ba_take s N
           have hNl' : (N : Int) ≤ s.length := by omega
           have hLEN : (s.take N).length = N := by rw [List.length_take]; omega
           cases h : Fx.fParse (s.take N) with
           | none =>
            rw [h] at hp
            have HR : Hid ((tkAmt s).getD (tk0, 0) = (tk0, 0)) := by show _ = _; rw [HT.out]; unfold tkNum; rw [h]; rfl
            clear h HT hLEN
            simp only [Fx.po, Fx.pn, Fx.pk, Option.isSome_none] at hp
            generalize s.take N = u at *
            go_wp2_with fail
            refine hp.mono ?_
            rintro e w1 ⟨rfl, hb1⟩
            obtain ⟨c0, c1, c2, c3, c4, c5, f0, f1, f2, f3, f4, f5⟩ := (hx.later hb1).later (bal (Below.refl _ _) (.cells #[.bool false, .int .i64 0] 24))
            go_wp2
            exact bodyPost_ret (v := .tuple #[.agg #[.int .i64 0, .int .i64 0, .string ⟨#[]⟩, .bool false, .int .i64 0, .int .i64 0], .int .i64 0]) (by simp [results, Tryz.results105, go_sem, c0, c1, c2, c3, c4, c5]) rfl ⟨by rw [rt_of HR.out]; rfl, below6 (bal (Below.chain hb0 hb1) _) (Nat.le_refl _) _ _ _ _ _ _⟩
           | some r =>
            rw [h] at hp
            cases r with
            | none =>
             have HR : Hid ((tkAmt s).getD (tk0, 0) = (tk0, 0)) := by show _ = _; rw [HT.out]; unfold tkNum; rw [h]; rfl
             clear h HT hLEN
             simp only [Fx.po, Fx.pn, Fx.pk, Fx.ov, Fx.nn, Option.isSome_some] at hp
             generalize s.take N = u at *
             go_wp2_with fail
             refine hp.mono ?_
             rintro e w1 ⟨rfl, hb1⟩
             obtain ⟨c0, c1, c2, c3, c4, c5, f0, f1, f2, f3, f4, f5⟩ := (hx.later hb1).later (bal (Below.refl _ _) (.cells #[.bool true, .int .i64 0] 24))
             go_wp2
             exact bodyPost_ret (v := .tuple #[.agg #[.int .i64 0, .int .i64 0, .string ⟨#[]⟩, .bool false, .int .i64 0, .int .i64 0], .int .i64 0]) (by simp [results, Tryz.results105, go_sem, c0, c1, c2, c3, c4, c5]) rfl ⟨by rw [rt_of HR.out]; rfl, below6 (bal (Below.chain hb0 hb1) _) (Nat.le_refl _) _ _ _ _ _ _⟩
            | some v =>
             have HR : Hid ((tkAmt s).getD (tk0, 0) = (tNum v, N)) := by show _ = _; rw [HT.out]; unfold tkNum; rw [h]; show (tNum v, _) = _; rw [hLEN]
             clear h HT hLEN
             simp only [Fx.po, Fx.pn, Fx.pk, Fx.ov, Fx.nn, Option.isSome_some] at hp
             generalize s.take N = u at *
             go_wp2_with fail
             refine hp.mono ?_
             rintro e w1 ⟨rfl, hb1⟩
             obtain ⟨c0, c1, c2, c3, c4, c5, f0, f1, f2, f3, f4, f5⟩ := (hx.later hb1).later (bal (Below.refl _ _) (.cells #[.bool false, .int .i64 v] 24))
             go_wp2
             exact bodyPost_ret (v := .tuple #[.agg #[.int .i64 2, .int .i64 0, .string ⟨#[]⟩, .bool false, .int .i64 v, .int .i64 0], .int .i64 (N : Nat)]) (by simp [results, Tryz.results105, go_sem, c0, c1, c2, c3, c4, c5]) rfl ⟨by rw [rt_of HR.out]; rfl, below6 (bal (Below.chain hb0 hb1) _) (Nat.le_refl _) _ _ _ _ _ _⟩
         ·
          have HGN : dgN (s.drop (k + 1)) = N - (k + 1) := run_len (by simp; omega) hq.out (fun h => by simp at h; omega)
          have HT : Hid (tkAmt s = tkNum (s.take N)) := by
           show _ = _
           rw [HT0.out, HGN, show k + (1 + (N - (k + 1))) = N by omega]
          clear hq HT0 HGN
          have hp := Fx.rparse_any (s.take N) (w.alloc (.cells #[.int .i64 0, .int .i64 0, .string ⟨#[]⟩, .bool false, .int .i64 0, .int .i64 0] 39)) (by simp; omega)
          have hexN : (⟨s.toArray⟩ : ByteArray).extract 0 N = ⟨(s.take N).toArray⟩ := Fx.ba_take s N
          have hNl' : (N : Int) ≤ s.length := by omega
          have hLEN : (s.take N).length = N := by rw [List.length_take]; omega
          cases h : Fx.fParse (s.take N) with
          | none =>
           rw [h] at hp
           have HR : Hid ((tkAmt s).getD (tk0, 0) = (tk0, 0)) := by show _ = _; rw [HT.out]; unfold tkNum; rw [h]; rfl
           clear h HT hLEN
           simp only [Fx.po, Fx.pn, Fx.pk, Option.isSome_none] at hp
           generalize s.take N = u at *
           go_wp2_with fail
           refine hp.mono ?_
           rintro e w1 ⟨rfl, hb1⟩
           obtain ⟨c0, c1, c2, c3, c4, c5, f0, f1, f2, f3, f4, f5⟩ := (hx.later hb1).later (bal (Below.refl _ _) (.cells #[.bool false, .int .i64 0] 24))
           go_wp2
           exact bodyPost_ret (v := .tuple #[.agg #[.int .i64 0, .int .i64 0, .string ⟨#[]⟩, .bool false, .int .i64 0, .int .i64 0], .int .i64 0]) (by simp [results, Tryz.results105, go_sem, c0, c1, c2, c3, c4, c5]) rfl ⟨by rw [rt_of HR.out]; rfl, below6 (bal (Below.chain hb0 hb1) _) (Nat.le_refl _) _ _ _ _ _ _⟩
          | some r =>
           rw [h] at hp
           cases r with
           | none =>
            have HR : Hid ((tkAmt s).getD (tk0, 0) = (tk0, 0)) := by show _ = _; rw [HT.out]; unfold tkNum; rw [h]; rfl
            clear h HT hLEN
            simp only [Fx.po, Fx.pn, Fx.pk, Fx.ov, Fx.nn, Option.isSome_some] at hp
            generalize s.take N = u at *
            go_wp2_with fail
            refine hp.mono ?_
            rintro e w1 ⟨rfl, hb1⟩
            obtain ⟨c0, c1, c2, c3, c4, c5, f0, f1, f2, f3, f4, f5⟩ := (hx.later hb1).later (bal (Below.refl _ _) (.cells #[.bool true, .int .i64 0] 24))
            go_wp2
            exact bodyPost_ret (v := .tuple #[.agg #[.int .i64 0, .int .i64 0, .string ⟨#[]⟩, .bool false, .int .i64 0, .int .i64 0], .int .i64 0]) (by simp [results, Tryz.results105, go_sem, c0, c1, c2, c3, c4, c5]) rfl ⟨by rw [rt_of HR.out]; rfl, below6 (bal (Below.chain hb0 hb1) _) (Nat.le_refl _) _ _ _ _ _ _⟩
           | some v =>
            have HR : Hid ((tkAmt s).getD (tk0, 0) = (tNum v, N)) := by show _ = _; rw [HT.out]; unfold tkNum; rw [h]; show (tNum v, _) = _; rw [hLEN]
            clear h HT hLEN
            simp only [Fx.po, Fx.pn, Fx.pk, Fx.ov, Fx.nn, Option.isSome_some] at hp
            generalize s.take N = u at *
            go_wp2_with fail
            refine hp.mono ?_
            rintro e w1 ⟨rfl, hb1⟩
            obtain ⟨c0, c1, c2, c3, c4, c5, f0, f1, f2, f3, f4, f5⟩ := (hx.later hb1).later (bal (Below.refl _ _) (.cells #[.bool false, .int .i64 v] 24))
            go_wp2
            exact bodyPost_ret (v := .tuple #[.agg #[.int .i64 2, .int .i64 0, .string ⟨#[]⟩, .bool false, .int .i64 v, .int .i64 0], .int .i64 (N : Nat)]) (by simp [results, Tryz.results105, go_sem, c0, c1, c2, c3, c4, c5]) rfl ⟨by rw [rt_of HR.out]; rfl, below6 (bal (Below.chain hb0 hb1) _) (Nat.le_refl _) _ _ _ _ _ _⟩
       | false =>
        rw [hc1] at hdk1
        have HT : Hid (tkAmt s = tkNum (s.take k)) := by
         show _ = _
         rw [amt_num (by rw [HG.out]; exact ht), HG.out, decN_no (Or.inr (Or.inr ⟨hk1, by rw [HC1.out]; exact hc1⟩)), Nat.add_zero]
        clear HG ha ht hc1 e46 HC HC1
        have hp := Fx.rparse_any (s.take k) (w.alloc (.cells #[.int .i64 0, .int .i64 0, .string ⟨#[]⟩, .bool false, .int .i64 0, .int .i64 0] 39)) (by simp; omega)
        have hexN : (⟨s.toArray⟩ : ByteArray).extract 0 k = ⟨(s.take k).toArray⟩ := Fx.ba_take s k
        have hNl' : (k : Int) ≤ s.length := by omega
        have hLEN : (s.take k).length = k := by rw [List.length_take]; omega
        cases h : Fx.fParse (s.take k) with
        | none =>
         rw [h] at hp
         have HR : Hid ((tkAmt s).getD (tk0, 0) = (tk0, 0)) := by show _ = _; rw [HT.out]; unfold tkNum; rw [h]; rfl
         clear h HT hLEN
         simp only [Fx.po, Fx.pn, Fx.pk, Option.isSome_none] at hp
         generalize s.take k = u at *
         go_wp2_with fail
         refine (hdk1 _).mono ?_
         rintro e w1 ⟨rfl, rfl⟩
         go_wp2_with fail
         refine hp.mono ?_
         rintro e w1 ⟨rfl, hb1⟩
         obtain ⟨c0, c1, c2, c3, c4, c5, f0, f1, f2, f3, f4, f5⟩ := (hx.later hb1).later (bal (Below.refl _ _) (.cells #[.bool false, .int .i64 0] 24))
         go_wp2
         exact bodyPost_ret (v := .tuple #[.agg #[.int .i64 0, .int .i64 0, .string ⟨#[]⟩, .bool false, .int .i64 0, .int .i64 0], .int .i64 0]) (by simp [results, Tryz.results105, go_sem, c0, c1, c2, c3, c4, c5]) rfl ⟨by rw [rt_of HR.out]; rfl, below6 (bal (Below.chain hb0 hb1) _) (Nat.le_refl _) _ _ _ _ _ _⟩
        | some r =>
         rw [h] at hp
         cases r with
         | none =>
          have HR : Hid ((tkAmt s).getD (tk0, 0) = (tk0, 0)) := by show _ = _; rw [HT.out]; unfold tkNum; rw [h]; rfl
          clear h HT hLEN
          simp only [Fx.po, Fx.pn, Fx.pk, Fx.ov, Fx.nn, Option.isSome_some] at hp
          generalize s.take k = u at *
          go_wp2_with fail
          refine (hdk1 _).mono ?_
          rintro e w1 ⟨rfl, rfl⟩
          go_wp2_with fail
          refine hp.mono ?_
          rintro e w1 ⟨rfl, hb1⟩
          obtain ⟨c0, c1, c2, c3, c4, c5, f0, f1, f2, f3, f4, f5⟩ := (hx.later hb1).later (bal (Below.refl _ _) (.cells #[.bool true, .int .i64 0] 24))
          go_wp2
          exact bodyPost_ret (v := .tuple #[.agg #[.int .i64 0, .int .i64 0, .string ⟨#[]⟩, .bool false, .int .i64 0, .int .i64 0], .int .i64 0]) (by simp [results, Tryz.results105, go_sem, c0, c1, c2, c3, c4, c5]) rfl ⟨by rw [rt_of HR.out]; rfl, below6 (bal (Below.chain hb0 hb1) _) (Nat.le_refl _) _ _ _ _ _ _⟩
         | some v =>
          have HR : Hid ((tkAmt s).getD (tk0, 0) = (tNum v, k)) := by show _ = _; rw [HT.out]; unfold tkNum; rw [h]; show (tNum v, _) = _; rw [hLEN]
          clear h HT hLEN
          simp only [Fx.po, Fx.pn, Fx.pk, Fx.ov, Fx.nn, Option.isSome_some] at hp
          generalize s.take k = u at *
          go_wp2_with fail
          refine (hdk1 _).mono ?_
          rintro e w1 ⟨rfl, rfl⟩
          go_wp2_with fail
          refine hp.mono ?_
          rintro e w1 ⟨rfl, hb1⟩
          obtain ⟨c0, c1, c2, c3, c4, c5, f0, f1, f2, f3, f4, f5⟩ := (hx.later hb1).later (bal (Below.refl _ _) (.cells #[.bool false, .int .i64 v] 24))
          go_wp2
          exact bodyPost_ret (v := .tuple #[.agg #[.int .i64 2, .int .i64 0, .string ⟨#[]⟩, .bool false, .int .i64 v, .int .i64 0], .int .i64 (k : Nat)]) (by simp [results, Tryz.results105, go_sem, c0, c1, c2, c3, c4, c5]) rfl ⟨by rw [rt_of HR.out]; rfl, below6 (bal (Below.chain hb0 hb1) _) (Nat.le_refl _) _ _ _ _ _ _⟩
      ·
       have h46' : ((((⟨s.toArray⟩ : ByteArray)[k]'hbk).toNat : Int) == 46) = false := beq_eq_false_iff_ne.2 h46
       have HT : Hid (tkAmt s = tkNum (s.take k)) := by
        show _ = _
        rw [amt_num (by rw [HG.out]; exact ht), HG.out, decN_no (Or.inr (Or.inl ⟨hlt, by rw [HC.out]; exact byte_ne (k := 46) (by decide) h46⟩)), Nat.add_zero]
       clear HG ha ht h46 HC
       have hp := Fx.rparse_any (s.take k) (w.alloc (.cells #[.int .i64 0, .int .i64 0, .string ⟨#[]⟩, .bool false, .int .i64 0, .int .i64 0] 39)) (by simp; omega)
       have hexN : (⟨s.toArray⟩ : ByteArray).extract 0 k = ⟨(s.take k).toArray⟩ := Fx.ba_take s k
       have hNl' : (k : Int) ≤ s.length := by omega
       have hLEN : (s.take k).length = k := by rw [List.length_take]; omega
       cases h : Fx.fParse (s.take k) with
       | none =>
        rw [h] at hp
        have HR : Hid ((tkAmt s).getD (tk0, 0) = (tk0, 0)) := by show _ = _; rw [HT.out]; unfold tkNum; rw [h]; rfl
        clear h HT hLEN
        simp only [Fx.po, Fx.pn, Fx.pk, Option.isSome_none] at hp
        generalize s.take k = u at *
        go_wp2_with fail
        refine hp.mono ?_
        rintro e w1 ⟨rfl, hb1⟩
        obtain ⟨c0, c1, c2, c3, c4, c5, f0, f1, f2, f3, f4, f5⟩ := (hx.later hb1).later (bal (Below.refl _ _) (.cells #[.bool false, .int .i64 0] 24))
        go_wp2
        exact bodyPost_ret (v := .tuple #[.agg #[.int .i64 0, .int .i64 0, .string ⟨#[]⟩, .bool false, .int .i64 0, .int .i64 0], .int .i64 0]) (by simp [results, Tryz.results105, go_sem, c0, c1, c2, c3, c4, c5]) rfl ⟨by rw [rt_of HR.out]; rfl, below6 (bal (Below.chain hb0 hb1) _) (Nat.le_refl _) _ _ _ _ _ _⟩
       | some r =>
        rw [h] at hp
        cases r with
        | none =>
         have HR : Hid ((tkAmt s).getD (tk0, 0) = (tk0, 0)) := by show _ = _; rw [HT.out]; unfold tkNum; rw [h]; rfl
         clear h HT hLEN
         simp only [Fx.po, Fx.pn, Fx.pk, Fx.ov, Fx.nn, Option.isSome_some] at hp
         generalize s.take k = u at *
         go_wp2_with fail
         refine hp.mono ?_
         rintro e w1 ⟨rfl, hb1⟩
         obtain ⟨c0, c1, c2, c3, c4, c5, f0, f1, f2, f3, f4, f5⟩ := (hx.later hb1).later (bal (Below.refl _ _) (.cells #[.bool true, .int .i64 0] 24))
         go_wp2
         exact bodyPost_ret (v := .tuple #[.agg #[.int .i64 0, .int .i64 0, .string ⟨#[]⟩, .bool false, .int .i64 0, .int .i64 0], .int .i64 0]) (by simp [results, Tryz.results105, go_sem, c0, c1, c2, c3, c4, c5]) rfl ⟨by rw [rt_of HR.out]; rfl, below6 (bal (Below.chain hb0 hb1) _) (Nat.le_refl _) _ _ _ _ _ _⟩
        | some v =>
         have HR : Hid ((tkAmt s).getD (tk0, 0) = (tNum v, k)) := by show _ = _; rw [HT.out]; unfold tkNum; rw [h]; show (tNum v, _) = _; rw [hLEN]
         clear h HT hLEN
         simp only [Fx.po, Fx.pn, Fx.pk, Fx.ov, Fx.nn, Option.isSome_some] at hp
         generalize s.take k = u at *
         go_wp2_with fail
         refine hp.mono ?_
         rintro e w1 ⟨rfl, hb1⟩
         obtain ⟨c0, c1, c2, c3, c4, c5, f0, f1, f2, f3, f4, f5⟩ := (hx.later hb1).later (bal (Below.refl _ _) (.cells #[.bool false, .int .i64 v] 24))
         go_wp2
         exact bodyPost_ret (v := .tuple #[.agg #[.int .i64 2, .int .i64 0, .string ⟨#[]⟩, .bool false, .int .i64 v, .int .i64 0], .int .i64 (k : Nat)]) (by simp [results, Tryz.results105, go_sem, c0, c1, c2, c3, c4, c5]) rfl ⟨by rw [rt_of HR.out]; rfl, below6 (bal (Below.chain hb0 hb1) _) (Nat.le_refl _) _ _ _ _ _ _⟩
     ·
      have hk1' : ¬ (k : Int) + 1 < s.length := by omega
      have HT : Hid (tkAmt s = tkNum (s.take k)) := by
       show _ = _
       rw [amt_num (by rw [HG.out]; exact ht), HG.out, decN_no (Or.inl hk1), Nat.add_zero]
      clear HG ha ht HC
      have hp := Fx.rparse_any (s.take k) (w.alloc (.cells #[.int .i64 0, .int .i64 0, .string ⟨#[]⟩, .bool false, .int .i64 0, .int .i64 0] 39)) (by simp; omega)
      have hexN : (⟨s.toArray⟩ : ByteArray).extract 0 k = ⟨(s.take k).toArray⟩ := Fx.ba_take s k
      have hNl' : (k : Int) ≤ s.length := by omega
      have hLEN : (s.take k).length = k := by rw [List.length_take]; omega
      cases h : Fx.fParse (s.take k) with
      | none =>
       rw [h] at hp
       have HR : Hid ((tkAmt s).getD (tk0, 0) = (tk0, 0)) := by show _ = _; rw [HT.out]; unfold tkNum; rw [h]; rfl
       clear h HT hLEN
       simp only [Fx.po, Fx.pn, Fx.pk, Option.isSome_none] at hp
       generalize s.take k = u at *
       go_wp2_with fail
       refine hp.mono ?_
       rintro e w1 ⟨rfl, hb1⟩
       obtain ⟨c0, c1, c2, c3, c4, c5, f0, f1, f2, f3, f4, f5⟩ := (hx.later hb1).later (bal (Below.refl _ _) (.cells #[.bool false, .int .i64 0] 24))
       go_wp2
       exact bodyPost_ret (v := .tuple #[.agg #[.int .i64 0, .int .i64 0, .string ⟨#[]⟩, .bool false, .int .i64 0, .int .i64 0], .int .i64 0]) (by simp [results, Tryz.results105, go_sem, c0, c1, c2, c3, c4, c5]) rfl ⟨by rw [rt_of HR.out]; rfl, below6 (bal (Below.chain hb0 hb1) _) (Nat.le_refl _) _ _ _ _ _ _⟩
      | some r =>
       rw [h] at hp
       cases r with
       | none =>
        have HR : Hid ((tkAmt s).getD (tk0, 0) = (tk0, 0)) := by show _ = _; rw [HT.out]; unfold tkNum; rw [h]; rfl
        clear h HT hLEN
        simp only [Fx.po, Fx.pn, Fx.pk, Fx.ov, Fx.nn, Option.isSome_some] at hp
        generalize s.take k = u at *
        go_wp2_with fail
        refine hp.mono ?_
        rintro e w1 ⟨rfl, hb1⟩
        obtain ⟨c0, c1, c2, c3, c4, c5, f0, f1, f2, f3, f4, f5⟩ := (hx.later hb1).later (bal (Below.refl _ _) (.cells #[.bool true, .int .i64 0] 24))
        go_wp2
        exact bodyPost_ret (v := .tuple #[.agg #[.int .i64 0, .int .i64 0, .string ⟨#[]⟩, .bool false, .int .i64 0, .int .i64 0], .int .i64 0]) (by simp [results, Tryz.results105, go_sem, c0, c1, c2, c3, c4, c5]) rfl ⟨by rw [rt_of HR.out]; rfl, below6 (bal (Below.chain hb0 hb1) _) (Nat.le_refl _) _ _ _ _ _ _⟩
       | some v =>
        have HR : Hid ((tkAmt s).getD (tk0, 0) = (tNum v, k)) := by show _ = _; rw [HT.out]; unfold tkNum; rw [h]; show (tNum v, _) = _; rw [hLEN]
        clear h HT hLEN
        simp only [Fx.po, Fx.pn, Fx.pk, Fx.ov, Fx.nn, Option.isSome_some] at hp
        generalize s.take k = u at *
        go_wp2_with fail
        refine hp.mono ?_
        rintro e w1 ⟨rfl, hb1⟩
        obtain ⟨c0, c1, c2, c3, c4, c5, f0, f1, f2, f3, f4, f5⟩ := (hx.later hb1).later (bal (Below.refl _ _) (.cells #[.bool false, .int .i64 v] 24))
        go_wp2
        exact bodyPost_ret (v := .tuple #[.agg #[.int .i64 2, .int .i64 0, .string ⟨#[]⟩, .bool false, .int .i64 v, .int .i64 0], .int .i64 (k : Nat)]) (by simp [results, Tryz.results105, go_sem, c0, c1, c2, c3, c4, c5]) rfl ⟨by rw [rt_of HR.out]; rfl, below6 (bal (Below.chain hb0 hb1) _) (Nat.le_refl _) _ _ _ _ _ _⟩
  ·
   have HG : Hid (dgN s = k) := run_len hk ha.out (fun h => absurd h hlt)
   have ht : ¬ (s.drop k).head? = some 116 := by
    rw [List.drop_of_length_le (by omega)]
    simp
   have hk1' : ¬ (k : Int) + 1 < s.length := by omega
   have HT : Hid (tkAmt s = tkNum (s.take k)) := by
    show _ = _
    rw [amt_num (by rw [HG.out]; exact ht), HG.out, decN_no (Or.inl (by omega)), Nat.add_zero]
   clear HG ha ht
   have hp := Fx.rparse_any (s.take k) (w.alloc (.cells #[.int .i64 0, .int .i64 0, .string ⟨#[]⟩, .bool false, .int .i64 0, .int .i64 0] 39)) (by simp; omega)
   have hexN : (⟨s.toArray⟩ : ByteArray).extract 0 k = ⟨(s.take k).toArray⟩ := Fx.ba_take s k
   have hNl' : (k : Int) ≤ s.length := by omega
   have hLEN : (s.take k).length = k := by rw [List.length_take]; omega
   cases h : Fx.fParse (s.take k) with
   | none =>
    rw [h] at hp
    have HR : Hid ((tkAmt s).getD (tk0, 0) = (tk0, 0)) := by show _ = _; rw [HT.out]; unfold tkNum; rw [h]; rfl
    clear h HT hLEN
    simp only [Fx.po, Fx.pn, Fx.pk, Option.isSome_none] at hp
    generalize s.take k = u at *
    go_wp2_with fail
    refine hp.mono ?_
    rintro e w1 ⟨rfl, hb1⟩
    obtain ⟨c0, c1, c2, c3, c4, c5, f0, f1, f2, f3, f4, f5⟩ := (hx.later hb1).later (bal (Below.refl _ _) (.cells #[.bool false, .int .i64 0] 24))
    go_wp2
    exact bodyPost_ret (v := .tuple #[.agg #[.int .i64 0, .int .i64 0, .string ⟨#[]⟩, .bool false, .int .i64 0, .int .i64 0], .int .i64 0]) (by simp [results, Tryz.results105, go_sem, c0, c1, c2, c3, c4, c5]) rfl ⟨by rw [rt_of HR.out]; rfl, below6 (bal (Below.chain hb0 hb1) _) (Nat.le_refl _) _ _ _ _ _ _⟩
   | some r =>
    rw [h] at hp
    cases r with
    | none =>
     have HR : Hid ((tkAmt s).getD (tk0, 0) = (tk0, 0)) := by show _ = _; rw [HT.out]; unfold tkNum; rw [h]; rfl
     clear h HT hLEN
     simp only [Fx.po, Fx.pn, Fx.pk, Fx.ov, Fx.nn, Option.isSome_some] at hp
     generalize s.take k = u at *
     go_wp2_with fail
     refine hp.mono ?_
     rintro e w1 ⟨rfl, hb1⟩
     obtain ⟨c0, c1, c2, c3, c4, c5, f0, f1, f2, f3, f4, f5⟩ := (hx.later hb1).later (bal (Below.refl _ _) (.cells #[.bool true, .int .i64 0] 24))
     go_wp2
     exact bodyPost_ret (v := .tuple #[.agg #[.int .i64 0, .int .i64 0, .string ⟨#[]⟩, .bool false, .int .i64 0, .int .i64 0], .int .i64 0]) (by simp [results, Tryz.results105, go_sem, c0, c1, c2, c3, c4, c5]) rfl ⟨by rw [rt_of HR.out]; rfl, below6 (bal (Below.chain hb0 hb1) _) (Nat.le_refl _) _ _ _ _ _ _⟩
    | some v =>
     have HR : Hid ((tkAmt s).getD (tk0, 0) = (tNum v, k)) := by show _ = _; rw [HT.out]; unfold tkNum; rw [h]; show (tNum v, _) = _; rw [hLEN]
     clear h HT hLEN
     simp only [Fx.po, Fx.pn, Fx.pk, Fx.ov, Fx.nn, Option.isSome_some] at hp
     generalize s.take k = u at *
     go_wp2_with fail
     refine hp.mono ?_
     rintro e w1 ⟨rfl, hb1⟩
     obtain ⟨c0, c1, c2, c3, c4, c5, f0, f1, f2, f3, f4, f5⟩ := (hx.later hb1).later (bal (Below.refl _ _) (.cells #[.bool false, .int .i64 v] 24))
     go_wp2
     exact bodyPost_ret (v := .tuple #[.agg #[.int .i64 2, .int .i64 0, .string ⟨#[]⟩, .bool false, .int .i64 v, .int .i64 0], .int .i64 (k : Nat)]) (by simp [results, Tryz.results105, go_sem, c0, c1, c2, c3, c4, c5]) rfl ⟨by rw [rt_of HR.out]; rfl, below6 (bal (Below.chain hb0 hb1) _) (Nat.le_refl _) _ _ _ _ _ _⟩
end Go.Proofs.YteankdaegdhfiaaGreatDoor
