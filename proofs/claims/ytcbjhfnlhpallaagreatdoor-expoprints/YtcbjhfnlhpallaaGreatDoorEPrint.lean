/- Print: for every samples. -/
import Derived.Test.YtcbjhfnlhpallaaGreatDoorEPrP
namespace Go.Proofs.YtcbjhfnlhpallaaGreatDoor
open Go.RowKit Go.Maps

theorem OwnS.kept1 {w w' : World} {row : Option Nat} {base : Nat} {v : Value} {l : List Str} (h : OwnS w base v l) (hg : w.grownBy w' row) (hne : ∀ b, v.ownBlock = some b → some b ≠ row) : OwnS w' base v l := by
  refine World.ownsRow.kept h hg ?_
  cases e : v.ownBlock with
  | none => exact Or.inl rfl
  | some b => exact Or.inr (hne b e)
set_option maxRecDepth 40000 in
set_option maxHeartbeats 16000000 in
theorem printS_any (ao : Option Addr) (n cap : Nat) (o : List Scr) (w : World) (hn : n ≤ 12) (hx : Xs w ao n o) (hw : Wf o) (he : Ev w) : Calls Tryz.prog 18 #[.slice ao n cap] w fun e w' => e = .returned (tx (fPrintS o)) ∧ Below w.heap.size w w' := by
  have hmm := @run_makeMap Tryz.prog
  obtain ⟨hlen, hcell⟩ := hx
  have HL : Hid (o.length = n) := hlen
  have hb0 : Below w.heap.size w ((w.alloc (.map #[] 0)).alloc (.cells #[] 9)) := bal (bal (Below.refl _ _) _) _
  have hsz0 : (w.alloc (.map #[] 0)).heap.size = w.heap.size + 1 := by simp
  have hk0 : Km ((w.alloc (.map #[] 0)).alloc (.cells #[] 9)) w.heap.size 0 zk := (Km.made w).later (bal (Below.refl _ _) _)
  have ho0 : OwnS ((w.alloc (.map #[] 0)).alloc (.cells #[] 9)) (w.heap.size + 1) (.slice (some ⟨w.heap.size + 1, 0, none⟩) 0 0) [] := by
    have := World.ownsRow_made (base := w.heap.size + 1) (e := 9) (size := 1) (w.alloc (.map #[] 0)) #[] 0 (by simp) (by unfold maxLen; omega) (by simp)
    rw [hsz0] at this
    exact this
  have HNO : Hid (∀ j, j < o.length → good (o.getD j scr0) = false → fPrintS o = []) := fun j h1 h2 => printS_no h1 h2
  have HYES : Hid ((∀ x ∈ o, good x = true) → fPrintS o = ended (prL zk o)) := fun h => printS_yes h
  obtain ⟨i9, hi9, hz90, hz91, hz92⟩ := info_parts9
  clear hlen hsz0
  generalize fPrintS o = R at *
  go_enter Tryz.func18, Tryz.ntmps18
  go_wp2_with fail
  generalize (w.alloc (.map #[] 0)).alloc (.cells #[] 9) = w0 at *
  go_loopw [4, 13] (fun lv i wr => ∃ (j m : Nat) (v : Value), j ≤ n ∧ v = lv ∧ i = .int .i64 j ∧ OwnS wr (w.heap.size + 1) v (prL zk (o.take j)) ∧ Km wr w.heap.size m (kst zk (o.take j)) ∧ m ≤ j ∧ Hid (∀ x ∈ o.take j, good x = true) ∧ Below w.heap.size w wr ∧ w.heap.size + 1 ≤ wr.heap.size) (fun _ i _ => n - (intOf i).toNat)
  case atStart => exact ⟨0, 0, _, by omega, rfl, rfl, ho0, hk0, Nat.le_refl _, (fun x hx => by simp at hx), hb0, Nat.le_of_lt (World.ownsRow.lt ho0 (w.heap.size + 1) rfl).2⟩
  case round =>
    obtain ⟨j, m, v, hj, rfl, rfl, ho, hm, hmj, HG, hb, hbs⟩ := hrel
    by_cases hlt : j < n
    · obtain ⟨b, off, rfl, hc⟩ := hcell (by omega)
      obtain ⟨la, lc, hps, k0, k1, k2, k3, k4, k5⟩ := hc j hlt
      have hjo : j < o.length := by rw [HL.out]; exact hlt
      obtain ⟨HT1, HT2⟩ := pr_take hjo
      have HT1 : Hid _ := HT1
      have HT2 : Hid _ := HT2
      have HGN : Hid (good (o.getD j scr0) = false → R = []) := HNO.out j hjo
      have HGY : Hid (good (o.getD j scr0) = true → ∀ x ∈ o.take (j + 1), good x = true) := good_snoc hjo HG.out
      obtain ⟨p1, p2⟩ := pr_bound (o := o) (j := j) (by rw [HL.out]; exact hn) HG.out
      obtain ⟨w1, w2, w3, w4, w5⟩ := hw.at j
      have HGI := good_iff (o.getD j scr0)
      have HMN : Hid (good (o.getD j scr0) = true → (mname (o.getD j scr0)).length ≤ 20) := good_name
      have hps := hps.later hb
      have k0 := cell_later' k0 hb
      have k1 := cell_later' k1 hb
      have k2 := cell_later' k2 hb
      have k3 := cell_later' k3 hb
      have k4 := cell_later' k4 hb
      have k5 := cell_later' k5 hb
      clear hc hcell HNO HYES HG
      generalize o.getD j scr0 = x at *
      have hsl := fun W h h2 => sampleLine_any la lc x W w1 w3 w4.1 w4.2 w2 h h2
      have his := fun W h => isS_any la lc x W w1 w2 h
      have hmo := fun W (h : Ps W la x.ls.length x.ls) => metricOf_any la x.ls.length lc x W w1 h
      have hL := sLine_long w3 w4.1 w4.2
      have hwf := wf64 w5
      have HONE : Hid (∀ k : Str → Int, one1 k x = if k (mname x) = x.kind then [sLine x] else [kLine (mname x) x.kind, sLine x]) := fun _ => rfl
      have hkl := fun W (h : (mname x).length ≤ 20) => kindLine_any (mname x) x.kind W (by omega)
      generalize kst zk (o.take j) = kk at *
      generalize prL zk (o.take j) = PL at *
      generalize kLine (mname x) x.kind = KL at *
      generalize mname x = mn at *
      generalize sLine x = SL at *
      have hz1 := bal (Below.refl _ wr) (.cells #[.slice la x.ls.length lc, .bool x.ov, .int .i64 x.n, .int .i64 x.t, .bool x.has, .int .i64 x.kind] 34)
      have hx1 := BoxX.new wr (.slice la x.ls.length lc) x
      have hps1 := hps.later hz1
      have B1 := Below.chain hb hz1
      have ho1 := ho.later hz1
      have hm1 := hm.later hz1
      have hs1 := hz1.size
      go_wp2_with fail
      generalize wr.alloc (.cells #[.slice la x.ls.length lc, .bool x.ov, .int .i64 x.n, .int .i64 x.t, .bool x.has, .int .i64 x.kind] 34) = w1' at *
      refine (hsl _ hps1 (he.later B1)).mono ?_
      rintro e w2' ⟨rfl, hb2⟩
      have B2 := Below.chain B1 hb2
      have hx2 := hx1.later hb2
      obtain ⟨c0, c1, c2, c3, c4, c5, f0, f1, f2, f3, f4, f5⟩ := hx2
      have hps2 := hps1.later hb2
      go_wp2_with fail
      refine (his _ hps2).mono ?_
      rintro e w3' ⟨rfl, hb3⟩
      have hx2 : BoxX w2' wr.heap.size (.slice la x.ls.length lc) x := ⟨c0, c1, c2, c3, c4, c5, f0, f1, f2, f3, f4, f5⟩
      clear c0 c1 c2 c3 c4 c5 f0 f1 f2 f3 f4 f5
      have B3 := Below.chain B2 hb3
      have hx3 := hx2.later hb3
      have hps3 := hps2.later hb3
      rcases hasB (fIsS x) with hI | hI
      · by_cases hlong : 300 < SL.length
        · have HF : Hid (R = []) := HGN.out (by rw [Bool.eq_false_iff]; intro hg; have := (HGI.1 hg).2; omega)
          have hlong' : (300 : Int) < SL.length := by omega
          rw [hI]
          clear HGI hI hlong
          go_wp2
          go_ret
          exact ⟨by rw [HF.out]; rfl, B3⟩
        · have hgood : good x = true := HGI.2 ⟨hI, by omega⟩
          have HG2 : Hid _ := HGY.out hgood
          have hmn := HMN.out hgood
          have hlong' : ¬ (300 : Int) < SL.length := by omega
          have hkl := fun W => hkl W hmn
          rw [hI]
          clear HGI hI hlong hgood HGY HGN HMN
          obtain ⟨c0, c1, c2, c3, c4, c5, f0, f1, f2, f3, f4, f5⟩ := hx3
          go_wp2_with fail
          refine (hmo _ hps3).mono ?_
          rintro e w4' ⟨rfl, hb4⟩
          have hx3 : BoxX w3' wr.heap.size (.slice la x.ls.length lc) x := ⟨c0, c1, c2, c3, c4, c5, f0, f1, f2, f3, f4, f5⟩
          clear c0 c1 c2 c3 c4 c5 f0 f1 f2 f3 f4 f5
          have B4 := Below.chain B3 hb4
          have hx4 := hx3.later hb4
          have hb14 := Below.chain (Below.chain hb2 hb3) hb4
          have ho4 := ho1.later hb14
          have hm4 := hm1.later hb14
          have hs4 := hb14.size
          clear ho ho1 hm hm1 hx1 hx2 hx3 hps hps1 hps2 hps3 hsl his hmo
          obtain ⟨c0, c1, c2, c3, c4, c5, f0, f1, f2, f3, f4, f5⟩ := hx4
          by_cases heq : kk mn = x.kind
          · have heq' : (kk mn != x.kind) = false := by simp [heq]
            have HT2 : Hid (kst zk (o.take (j + 1)) = kk) := by show _ = _; rw [HT2.out, if_pos heq]
            have HT1 : Hid (prL zk (o.take (j + 1)) = PL ++ [SL]) := by show _ = _; rw [HT1.out, HONE.out, if_pos heq]
            clear heq
            have hzaA := bal (Below.refl _ w4') (.cells #[tx SL] 9)
            have hoaA := ho4.later hzaA
            go_wp2_with (first | (at_lookup; go_must (refine wpList_look rfl _ _ rfl w.heap.size m kk mn rfl rfl hm4 (by omega) ?_)) | (at_builtin; go_must (refine wpList_append_own_at _ rfl _ _ 48 rfl (w.heap.size + 1) 9 i9 (tx []) 1 16 Tryz.underlying48 hi9 hz90 hz91 hz92 rfl (by decide) _ _ _ rfl hoaA ⟨w4'.heap.size, 0, none⟩ 1 1 [tx SL] ?hx rfl (cell_one_new _ _ _) (fun u hu => by cases hu with | head => rfl | tail _ h => cases h) ?h63 ?hby ?hbs ?_)))
            case hx => simp [Act.eval]
            case h63 => unfold maxLen; omega
            case hby => omega
            case hbs => have := hzaA.size; omega
            intro vA wA hoA hgA _ hlA
            have hoB := OwnS.snoc hoA
            have hmB := (hm4.later hzaA).kept hgA (fun e => by have := (World.ownsRow.lt hoaA _ e.symm).1; omega)
            have B5 := (Below.chain B4 hzaA).grown hgA (Nat.le_trans B4.size hzaA.size) (fun k hk => by have := (World.ownsRow.lt hoaA k hk).1; omega)
            have hs5 := hgA.size
            have hs5' := hzaA.size
            go_wp2
            go_roundw
            case rel => exact ⟨j + 1, m, _, by omega, rfl, by go_num, by rw [HT1.out]; exact hoB, by rw [HT2.out]; exact hmB, by omega, HG2, B5, by omega⟩
            case measure => simp [intOf]; omega
          · have heq' : (kk mn != x.kind) = true := by rw [bne_iff_ne]; exact heq
            have HT2 : Hid (kst zk (o.take (j + 1)) = upd kk mn x.kind) := by show _ = _; rw [HT2.out, if_neg heq]
            have HT1 : Hid (prL zk (o.take (j + 1)) = PL ++ [KL] ++ [SL]) := by show _ = _; rw [HT1.out, HONE.out, if_neg heq]; simp
            clear heq
            go_wp2_with (first | (at_lookup; go_must (refine wpList_look rfl _ _ rfl w.heap.size m kk mn rfl rfl hm4 (by omega) ?_)) | (at_mapUpdate; go_must (refine wpList_put rfl _ _ _ rfl w.heap.size m kk mn x.kind rfl rfl rfl hm4 (by omega) (by omega) hwf ?_)))
            intro w5' hm5 hg5
            have hx4 : BoxX w4' wr.heap.size (.slice la x.ls.length lc) x := ⟨c0, c1, c2, c3, c4, c5, f0, f1, f2, f3, f4, f5⟩
            clear c0 c1 c2 c3 c4 c5 f0 f1 f2 f3 f4 f5
            have hx5 := hx4.kept hg5 (fun e => by injection e with e; omega)
            have ho5 := ho4.kept1 hg5 (fun b e e2 => by injection e2 with e2; have := (World.ownsRow.lt ho4 b e).1; omega)
            have B5 := B4.grown hg5 B4.size (fun k hk => by injection hk with hk; omega)
            have hs5 := hg5.size
            obtain ⟨c0, c1, c2, c3, c4, c5, f0, f1, f2, f3, f4, f5⟩ := hx5
            go_wp2_with fail
            refine (hkl _).mono ?_
            rintro e w6' ⟨rfl, rfl⟩
            have hzaA := bal (Below.refl _ w5') (.cells #[tx KL] 9)
            have hoaA := ho5.later hzaA
            go_wp2_with (at_builtin; go_must (refine wpList_append_own_at _ rfl _ _ 48 rfl (w.heap.size + 1) 9 i9 (tx []) 1 16 Tryz.underlying48 hi9 hz90 hz91 hz92 rfl (by decide) _ _ _ rfl hoaA ⟨w5'.heap.size, 0, none⟩ 1 1 [tx KL] ?hx rfl (cell_one_new _ _ _) (fun u hu => by cases hu with | head => rfl | tail _ h => cases h) ?h63 ?hby ?hbs ?_))
            case hx => simp [Act.eval]
            case h63 => unfold maxLen; omega
            case hby => omega
            case hbs => have := hzaA.size; omega
            intro vA wA hoA hgA _ hlA
            have hoB := OwnS.snoc hoA
            have hmB := (hm5.later hzaA).kept hgA (fun e => by have := (World.ownsRow.lt hoaA _ e.symm).1; omega)
            have B6 := (Below.chain B5 hzaA).grown hgA (Nat.le_trans B5.size hzaA.size) (fun k hk => by have := (World.ownsRow.lt hoaA k hk).1; omega)
            have hs6 := hgA.size
            have hs6' := hzaA.size
            obtain ⟨PK, hPK⟩ : ∃ t, t = PL ++ [KL] := ⟨_, rfl⟩
            rw [← hPK] at hoB HT1
            have hPKl : PK.length ≤ 25 := by rw [hPK]; simp; omega
            clear hPK
            have hzaC := bal (Below.refl _ wA) (.cells #[tx SL] 9)
            have hoaC := hoB.later hzaC
            go_wp2_with (at_builtin; go_must (refine wpList_append_own_at _ rfl _ _ 48 rfl (w.heap.size + 1) 9 i9 (tx []) 1 16 Tryz.underlying48 hi9 hz90 hz91 hz92 rfl (by decide) _ _ _ rfl hoaC ⟨wA.heap.size, 0, none⟩ 1 1 [tx SL] ?hx rfl (cell_one_new _ _ _) (fun u hu => by cases hu with | head => rfl | tail _ h => cases h) ?h63 ?hby ?hbs ?_))
            case hx => simp [Act.eval]
            case h63 => unfold maxLen; omega
            case hby => omega
            case hbs => have := hzaC.size; omega
            intro vC wC hoC hgC _ hlC
            have hoD := OwnS.snoc hoC
            have hmD := (hmB.later hzaC).kept hgC (fun e => by have := (World.ownsRow.lt hoaC _ e.symm).1; omega)
            have B7 := (Below.chain B6 hzaC).grown hgC (Nat.le_trans B6.size hzaC.size) (fun k hk => by have := (World.ownsRow.lt hoaC k hk).1; omega)
            have hs7 := hgC.size
            have hs7' := hzaC.size
            go_wp2
            go_roundw
            case rel => exact ⟨j + 1, m + 1, _, by omega, rfl, by go_num, by rw [HT1.out]; exact hoD, by rw [HT2.out]; exact hmD, by omega, HG2, B7, by omega⟩
            case measure => simp [intOf]; omega
      · have HF : Hid (R = []) := HGN.out (by rw [Bool.eq_false_iff]; intro hg; have := (HGI.1 hg).1; rw [hI] at this; cases this)
        rw [hI]
        clear HGI hI
        go_wp2
        go_ret
        exact ⟨by rw [HF.out]; rfl, B3⟩
    · have e1 : j = n := by omega
      have HT : Hid (prL zk (o.take j) = prL zk o) := by show _ = _; rw [List.take_of_length_le (by rw [HL.out]; omega)]
      have HF : Hid (R = ended (prL zk o)) := HYES.out (fun x hx => HG.out x (by rw [List.take_of_length_le (by rw [HL.out]; omega)]; exact hx))
      obtain ⟨p1, p2⟩ := pr_bound (o := o) (j := j) (by rw [HL.out]; exact hn) HG.out
      obtain ⟨va, vc, rfl, hss, _, _⟩ := ho.slice
      have hen := ended_any va (prL zk (o.take j)).length vc (prL zk (o.take j)) wr (by omega) (by omega) hss
      rw [HT.out] at hen
      rw [HT.out]
      generalize prL zk o = PL at *
      clear hcell HNO HYES HG HT p1 p2 ho hss
      go_wp2_with fail
      refine hen.mono ?_
      rintro e w1 ⟨rfl, hb1⟩
      go_wp2_with fail
      go_ret
      exact ⟨by rw [HF.out]; rfl, Below.chain hb hb1⟩
end Go.Proofs.YtcbjhfnlhpallaaGreatDoor
