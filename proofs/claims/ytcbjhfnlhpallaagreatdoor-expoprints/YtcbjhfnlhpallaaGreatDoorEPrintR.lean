/- The reference's Print: for every samples. -/
import Derived.Test.YtcbjhfnlhpallaaGreatDoorEPrP
import Derived.Test.YtcbjhfnlhpallaaGreatDoorERefP
namespace Go.Proofs.YtcbjhfnlhpallaaGreatDoor
open Go.RowKit

set_option maxRecDepth 40000 in
set_option maxHeartbeats 32000000 in
theorem refPrintS_any (ao : Option Addr) (n cap : Nat) (o : List Scr) (w : World) (hn : n ≤ 12) (hx : Xs w ao n o) (hw : Wf o) : Calls Tryz.prog 19 #[.slice ao n cap] w fun e w' => e = .returned (tx (fPrintS o)) ∧ Below w.heap.size w w' := by
  obtain ⟨hlen, hcell⟩ := hx
  have HL : Hid (o.length = n) := hlen
  have hz0 := bal (Below.refl _ w) (.cells #[.slice none 0 0, .slice none 0 0] 77)
  have hz1 := bal (Below.refl _ (w.alloc (.cells #[.slice none 0 0, .slice none 0 0] 77))) (.cells #[tx [117, 110, 116, 121, 112, 101, 100], tx [99, 111, 117, 110, 116, 101, 114], tx [103, 97, 117, 103, 101]] 62)
  have hb0 := Below.chain hz0 hz1
  have hs1 : (w.alloc (.cells #[.slice none 0 0, .slice none 0 0] 77)).heap.size = w.heap.size + 1 := by simp
  have hs2 : ((w.alloc (.cells #[.slice none 0 0, .slice none 0 0] 77)).alloc (.cells #[tx [117, 110, 116, 121, 112, 101, 100], tx [99, 111, 117, 110, 116, 101, 114], tx [103, 97, 117, 103, 101]] 62)).heap.size = w.heap.size + 2 := by simp
  have hk1 : w.heap.size < (w.alloc (.cells #[.slice none 0 0, .slice none 0 0] 77)).heap.size := by simp
  have z0 : (w.alloc (.cells #[.slice none 0 0, .slice none 0 0] 77)).cell? ⟨w.heap.size, 0, none⟩ = some (.slice none 0 0) := by simp [go_sem]
  have z1 : (w.alloc (.cells #[.slice none 0 0, .slice none 0 0] 77)).cell? ⟨w.heap.size, 1, none⟩ = some (.slice none 0 0) := by simp [go_sem]
  have y0 : (w.alloc (.cells #[.slice none 0 0, .slice none 0 0] 77)).frozen? ⟨w.heap.size, 0, none⟩ = false := by simp [go_sem]
  have y1 : (w.alloc (.cells #[.slice none 0 0, .slice none 0 0] 77)).frozen? ⟨w.heap.size, 1, none⟩ = false := by simp [go_sem]
  have hkp0 : Kp ((w.alloc (.cells #[.slice none 0 0, .slice none 0 0] 77)).alloc (.cells #[tx [117, 110, 116, 121, 112, 101, 100], tx [99, 111, 117, 110, 116, 101, 114], tx [103, 97, 117, 103, 101]] 62)) (w.heap.size + 2) w.heap.size (.slice none 0 0) (.slice none 0 0) (.slice none 0 0) (.slice none 0 0) [] [] :=
    ⟨cell_later' z0 hz1, cell_later' z1 hz1, grown_frozen (grown_below hz1 none) hk1 y0 (by simp), grown_frozen (grown_below hz1 none) hk1 y1 (by simp), World.ownsRow_nil _ _ _ _, OwnI.none _ _, by omega⟩
  have hn3 : ∀ q : Nat, q < 3 → ((w.alloc (.cells #[.slice none 0 0, .slice none 0 0] 77)).alloc (.cells #[tx [117, 110, 116, 121, 112, 101, 100], tx [99, 111, 117, 110, 116, 101, 114], tx [103, 97, 117, 103, 101]] 62)).cell? ⟨w.heap.size + 1, q, none⟩ = some (tx (kwd (q : Int))) := by
    intro q hq
    have : q = 0 ∨ q = 1 ∨ q = 2 := by omega
    rw [← hs1]
    rcases this with rfl | rfl | rfl
    · show _ = some (tx [117, 110, 116, 121, 112, 101, 100])
      simp [go_sem]
    · show _ = some (tx [99, 111, 117, 110, 116, 101, 114])
      simp [go_sem]
    · show _ = some (tx [103, 97, 117, 103, 101])
      simp [go_sem]
  have HNO : Hid (∀ j, j < o.length → good (o.getD j scr0) = false → fPrintS o = []) := fun j h1 h2 => printS_no h1 h2
  have HYES : Hid ((∀ x ∈ o, good x = true) → fPrintS o = ended (prL zk o)) := fun h => printS_yes h
  clear hlen hs1 hz0 hz1 hk1 z0 z1 y0 y1
  generalize fPrintS o = R at *
  go_enter Tryz.func19, Tryz.ntmps19
  go_wp2_with fail
  generalize (w.alloc (.cells #[.slice none 0 0, .slice none 0 0] 77)).alloc (.cells #[tx [117, 110, 116, 121, 112, 101, 100], tx [99, 111, 117, 110, 116, 101, 114], tx [103, 97, 117, 103, 101]] 62) = w2 at *
  rw [← hs2] at hkp0
  have hBk : ∀ W, Keep (fun b => b < w2.heap.size ∧ b ≠ w.heap.size) w2 W → Below w.heap.size w W := fun W hK => hb0.trans (hK.mono (fun b (hb : b < w.heap.size) => ⟨by omega, by omega⟩)).below
  go_loopw [3, 6] (fun tv i wr => ∃ (j : Nat) (nv kv : Value) (ns : List Str) (ks : List Int), j ≤ n ∧ tv = tx (ended (prL zk (o.take j))) ∧ i = .int .i64 j ∧ Kp wr w2.heap.size w.heap.size nv kv nv kv ns ks ∧ Hid (ns.length = ks.length) ∧ ns.length ≤ j ∧ Hid (∀ s, lk ns ks s = kst zk (o.take j) s) ∧ Hid (∀ x ∈ o.take j, good x = true) ∧ Keep (fun b => b < w2.heap.size ∧ b ≠ w.heap.size) w2 wr) (fun _ i _ => n - (intOf i).toNat)
  case atStart => exact ⟨0, _, _, [], [], by omega, rfl, rfl, hkp0, rfl, Nat.le_refl _, fun _ => rfl, (fun x hx => by simp at hx), Keep.refl _ _⟩
  case round =>
    obtain ⟨j, nv, kv, ns, ks, hj, rfl, rfl, hkp, HNK, hnj, HLK, HG, hK⟩ := hrel
    have hb := hBk _ hK
    by_cases hlt : j < n
    · obtain ⟨b, off, rfl, hc⟩ := hcell (by omega)
      obtain ⟨la, lc, hps, e0, e1, e2, e3, e4, e5⟩ := hc j hlt
      have hjo : j < o.length := by rw [HL.out]; exact hlt
      obtain ⟨HT1, HT2⟩ := pr_take hjo
      have HT1 : Hid _ := HT1
      have HT2 : Hid _ := HT2
      have HGN : Hid (good (o.getD j scr0) = false → R = []) := HNO.out j hjo
      have HGY : Hid (good (o.getD j scr0) = true → ∀ x ∈ o.take (j + 1), good x = true) := good_snoc hjo HG.out
      obtain ⟨p1, p2⟩ := pr_bound (o := o) (j := j) (by rw [HL.out]; exact hn) HG.out
      obtain ⟨w1, w2', w3, w4, w5⟩ := hw.at j
      have HGI : Hid _ := good_iff (o.getD j scr0)
      have HIS : Hid _ := isS_iff (o.getD j scr0)
      have hlt' : (j : Int) < n := by omega
      clear hc hcell HNO HYES HG
      generalize o.getD j scr0 = x at *
      have his := fun W h => refIsS_any la lc x W w1 w3.1 w2' h
      have hgt : ∀ (W : World) (h : Ps W la x.ls.length x.ls), Calls Tryz.prog 34 #[.slice la x.ls.length lc, tx nm] W fun e w' => e = .returned (tx (mname x)) ∧ W = w' := fun W h => refGet_any la x.ls.length lc x.ls nm W (by omega) h
      have hpr := fun (W : World) (h : Ps W la x.ls.length x.ls) => refPrint_any la x.ls.length lc x.ls W (by omega) w2' h
      have hfp := fun W => Fx.rprint_any x.ov x.n W w3
      have a1 := print_short x.ls
      have a2 := Fx.print_len (Fx.V.cnt (o := x.ov) w3.1 w3.2)
      have HSL : Hid (sLine x = fPrint x.ls ++ [32] ++ Fx.fPrint (Fx.cnt x.ov x.n) ++ (if x.has = true then 32 :: Lib.itoa x.t else [])) := rfl
      have HONE : Hid (∀ k : Str → Int, one1 k x = if k (mname x) = x.kind then [sLine x] else [kLine (mname x) x.kind, sLine x]) := fun _ => rfl
      have HKL : Hid (kLine (mname x) x.kind = [35, 32, 84, 89, 80, 69, 32] ++ mname x ++ [32] ++ kwd x.kind) := rfl
      generalize kst zk (o.take j) = kk at *
      generalize prL zk (o.take j) = PL at *
      generalize kLine (mname x) x.kind = KL at *
      generalize sLine x = SL at *
      generalize fPrint x.ls = P at *
      generalize Fx.fPrint (Fx.cnt x.ov x.n) = N at *
      obtain ⟨T1, hT1⟩ : ∃ t, t = P ++ [32] := ⟨_, rfl⟩
      obtain ⟨T2, hT2⟩ : ∃ t, t = T1 ++ N := ⟨_, rfl⟩
      have l1 : T1.length ≤ 701 := by rw [hT1]; simp; omega
      have l2 : T2.length ≤ 1701 := by rw [hT2]; simp; omega
      have H1 : Hid (T1 = P ++ [32]) := hT1
      have H2 : Hid (T2 = T1 ++ N) := hT2
      have HSL : Hid (SL = T2 ++ (if x.has = true then 32 :: Lib.itoa x.t else [])) := by show _ = _; rw [HSL.out, hT2, hT1]
      clear hT1 hT2
      have hb1 := hps.later hb
      have k0 := cell_later' e0 hb
      have k1 := cell_later' e1 hb
      have k2 := cell_later' e2 hb
      have k3 := cell_later' e3 hb
      have k4 := cell_later' e4 hb
      have k5 := cell_later' e5 hb
      go_wp2_with fail
      refine (his _ hb1).mono ?_
      rintro e w3' ⟨rfl, hb3⟩
      have B3 := Below.chain hb hb3
      have K3 : Keep (fun b => b < w2.heap.size ∧ b ≠ w.heap.size) w2 w3' := hK.trans (Keep.of hb3 (fun b hb' => Nat.lt_of_lt_of_le hb'.1 hK.size))
      have hkp3 := hkp.later hb3
      clear k0 k1 k2 k3 k4 k5
      rcases hasB (fIsS x) with hI | hI
      · obtain ⟨i1, i2, i3, ⟨i4, i5⟩, i6, ⟨i7, i8⟩⟩ := HIS.out.1 hI
        have hmn := (name_len i2).2
        rw [hI]
        have HI : Hid (fIsS x = true) := hI
        clear hI i1 i2 i3 HIS i6
        obtain ⟨tn, htn⟩ : ∃ t : Nat, x.t = t := ⟨x.t.toNat, by omega⟩
        obtain ⟨q, hq⟩ : ∃ t : Nat, x.kind = t := ⟨x.kind.toNat, by omega⟩
        rw [htn] at HSL e3
        rw [hq] at HONE HT2 e5 HKL
        have htn' : tn ≤ 1000000 := by omega
        have hq3 : q < 3 := by omega
        have hnq := hn3 q hq3
        have hdg := fun W => Fx.rdigits_any tn W (by omega)
        have hdl := Fx.dec_short (u := tn) (by omega)
        have hkw := kwd_len (q : Int)
        have HSL : Hid (SL = T2 ++ (if x.has = true then 32 :: Lib.decDigits tn else [])) := by show _ = _; rw [HSL.out, Lib.itoa_nonneg]
        generalize Lib.decDigits tn = D at *
        generalize kwd (q : Int) = KW at *
        generalize mname x = mn at *
        clear htn hq i4 i5 i7 i8
        have hlkm : Hid (lk ns ks mn = kk mn) := HLK.out mn
        have hb3p := hps.later B3
        have k0 := cell_later' e0 B3
        have hkg := fun W (h : Kp W w2.heap.size w.heap.size nv kv nv kv ns ks) => kget_any W w2.heap.size w.heap.size nv kv ns ks mn h HNK.out (by omega)
        simp only [hlkm.out] at hkg
        go_wp2_with fail
        refine (hgt _ hb3p).mono ?_
        rintro e wz ⟨rfl, rfl⟩
        clear k0
        go_wp2_with fail
        have D0 : Below w3'.heap.size w3' w3'.drew := (Below.refl _ _).drew
        have B4 := Below.chain B3 D0
        have K4 : Keep (fun b => b < w2.heap.size ∧ b ≠ w.heap.size) w2 w3'.drew := K3.trans (Keep.of D0 (fun b hb' => Nat.lt_of_lt_of_le hb'.1 K3.size))
        have hkp4 := hkp3.later D0
        have S4 : w3'.drew.cell? ⟨b, off + j * 6 + 5, none⟩ = some (.int .i64 (q : Int)) := cell_later' e5 B4
        refine wp_region_noPanic ?_
        refine wp_region_held_drew (S := fun W => W.cell? ⟨b, off + j * 6 + 5, none⟩ = some (.int .i64 (q : Int))) (by kernel_rfl) ?_ (fun _ => ?_)
        · exact S4
        generalize w3'.drew = w4' at *
        refine take_at 0 (some 30) (.pointer (some ⟨w.heap.size, 0, none⟩)) rfl rfl (by kernel_rfl) (by kernel_rfl) (by kernel_rfl) (fun _ _ _ h => h) (by rfl) (fun W hSw => by go_simp) S4 ?_
        simp only [Act.put, List.setIfInBounds_toArray, List.set_cons_zero, List.set_cons_succ]
        refine take_at 1 (some 31) (tx mn) rfl rfl (by kernel_rfl) (by kernel_rfl) (by kernel_rfl) (fun _ _ _ h => h) (by rfl) (fun W hSw => by go_simp) S4 ?_
        simp only [Act.put, List.setIfInBounds_toArray, List.set_cons_zero, List.set_cons_succ]
        refine take_at 3 (some 33) (.slice (some ⟨b, off, none⟩) n cap) rfl rfl (by kernel_rfl) (by kernel_rfl) (by kernel_rfl) (fun _ _ _ h => h) (by rfl) (fun W hSw => by go_simp) S4 ?_
        simp only [Act.put, List.setIfInBounds_toArray, List.set_cons_zero, List.set_cons_succ]
        refine take_at 4 (some 34) (.int .i64 (j : Int)) rfl rfl (by kernel_rfl) (by kernel_rfl) (by kernel_rfl) (fun _ _ _ h => h) (by rfl) (fun W hSw => by go_simp) S4 ?_
        simp only [Act.put, List.setIfInBounds_toArray, List.set_cons_zero, List.set_cons_succ]
        refine take_at 5 (some 35) (.pointer (some ⟨b, off + j * 6, none⟩)) rfl rfl (by kernel_rfl) (by kernel_rfl) (by kernel_rfl) (fun _ _ _ h => h) (by rfl) (fun W hSw => by go_simp) S4 ?_
        simp only [Act.put, List.setIfInBounds_toArray, List.set_cons_zero, List.set_cons_succ]
        refine take_at 6 (some 36) (.pointer (some ⟨b, off + j * 6 + 5, none⟩)) rfl rfl (by kernel_rfl) (by kernel_rfl) (by kernel_rfl) (fun _ _ _ h => h) (by rfl) (fun W hSw => by go_simp) S4 ?_
        simp only [Act.put, List.setIfInBounds_toArray, List.set_cons_zero, List.set_cons_succ]
        refine take_at 7 (some 37) (.int .i64 (q : Int)) rfl rfl (by kernel_rfl) (by kernel_rfl) (by kernel_rfl) (fun _ _ _ h => h) (by rfl) (fun W hSw => by go_simp) S4 ?_
        simp only [Act.put, List.setIfInBounds_toArray, List.set_cons_zero, List.set_cons_succ]
        refine wpAnyH_ready (rs := [2]) (by kernel_rfl) (by simp) ?_
        refine AllReadyH.cons rfl (fun K hK => ?_) AllReadyH.nil
        go_simp
        refine (hkg _ hkp4).mono ?_
        rintro e wz ⟨rfl, rfl⟩
        refine hK.out _ _ ?_ (fun _ => ?_)
        · exact S4
        clear hK K
        by_cases heq : kk mn = (q : Int)
        · have heq' : (kk mn != (q : Int)) = false := by simp [heq]
          have HT2 : Hid (kst zk (o.take (j + 1)) = kk) := by show _ = _; rw [HT2.out, if_pos heq]
          have HT1 : Hid (prL zk (o.take (j + 1)) = PL ++ [SL]) := by show _ = _; rw [HT1.out, HONE.out, if_pos heq]
          clear heq
          refine take_at 8 (some 38) (.bool false) rfl rfl (by kernel_rfl) (by kernel_rfl) (by kernel_rfl) (fun _ _ _ h => h) (by rfl) (fun W hSw => by go_simp) S4 ?_
          simp only [Act.put, List.setIfInBounds_toArray, List.set_cons_zero, List.set_cons_succ]
          refine wpAnyH_done (by kernel_rfl) ?_ _
          refine NoPanic.normal ?_
          clear S4
          obtain ⟨S, hS⟩ : ∃ t, t = ended PL := ⟨_, rfl⟩
          rw [← hS]
          have HS0 : Hid (S = ended PL) := hS
          have ls : S.length ≤ 8000 := by rw [hS]; omega
          clear hS
          have HTX : Hid (ended (prL zk (o.take (j + 1))) = S ++ (SL ++ [10])) := by show _ = _; rw [HT1.out, ended_append, ended_one, HS0.out]
          go_wp2_with fail
          have D6 : Below w4'.heap.size w4' w4'.drew := (Below.refl _ _).drew
          have B6 := Below.chain B4 D6
          have K6 : Keep (fun b => b < w2.heap.size ∧ b ≠ w.heap.size) w2 w4'.drew := K4.trans (Keep.of D6 (fun b hb' => Nat.lt_of_lt_of_le hb'.1 K4.size))
          have kp6 := hkp4.later D6
          have hp6 := hps.later B6
          refine wp_region_noPanic ?_
          refine wp_region_held_drew (S := (fun W => W.cell? ⟨b, off + j * 6, none⟩ = some (.slice la x.ls.length lc) ∧ W.cell? ⟨b, off + j * 6 + 1, none⟩ = some (.bool x.ov) ∧ W.cell? ⟨b, off + j * 6 + 2, none⟩ = some (.int .i64 x.n))) (by kernel_rfl) ?_ (fun _ => ?_)
          · exact ⟨cell_later' e0 B6, cell_later' e1 B6, cell_later' e2 B6⟩
          generalize w4'.drew = w6' at *
          refine take_at 0 (some 61) (.slice (some ⟨b, off, none⟩) n cap) rfl rfl (by kernel_rfl) (by kernel_rfl) (by kernel_rfl) (fun _ _ _ h => h) (by rfl) (fun W hSw => by go_simp) ⟨cell_later' e0 B6, cell_later' e1 B6, cell_later' e2 B6⟩ ?_
          simp only [Act.put, List.setIfInBounds_toArray, List.set_cons_zero, List.set_cons_succ]
          refine take_at 1 (some 62) (.int .i64 (j : Int)) rfl rfl (by kernel_rfl) (by kernel_rfl) (by kernel_rfl) (fun _ _ _ h => h) (by rfl) (fun W hSw => by go_simp) ⟨cell_later' e0 B6, cell_later' e1 B6, cell_later' e2 B6⟩ ?_
          simp only [Act.put, List.setIfInBounds_toArray, List.set_cons_zero, List.set_cons_succ]
          refine take_at 2 (some 63) (.pointer (some ⟨b, off + j * 6, none⟩)) rfl rfl (by kernel_rfl) (by kernel_rfl) (by kernel_rfl) (fun _ _ _ h => h) (by rfl) (fun W hSw => by go_simp) ⟨cell_later' e0 B6, cell_later' e1 B6, cell_later' e2 B6⟩ ?_
          simp only [Act.put, List.setIfInBounds_toArray, List.set_cons_zero, List.set_cons_succ]
          refine take_at 3 (some 64) (.pointer (some ⟨b, off + j * 6, none⟩)) rfl rfl (by kernel_rfl) (by kernel_rfl) (by kernel_rfl) (fun _ _ _ h => h) (by rfl) (fun W hSw => by go_simp) ⟨cell_later' e0 B6, cell_later' e1 B6, cell_later' e2 B6⟩ ?_
          simp only [Act.put, List.setIfInBounds_toArray, List.set_cons_zero, List.set_cons_succ]
          refine take_at 4 (some 65) (.slice la x.ls.length lc) rfl rfl (by kernel_rfl) (by kernel_rfl) (by kernel_rfl) (fun _ _ _ h => h) (by rfl) (fun W hSw => by obtain ⟨s0, s1, s2⟩ := hSw; go_simp) ⟨cell_later' e0 B6, cell_later' e1 B6, cell_later' e2 B6⟩ ?_
          simp only [Act.put, List.setIfInBounds_toArray, List.set_cons_zero, List.set_cons_succ]
          refine take_at 7 (some 68) (.slice (some ⟨b, off, none⟩) n cap) rfl rfl (by kernel_rfl) (by kernel_rfl) (by kernel_rfl) (fun _ _ _ h => h) (by rfl) (fun W hSw => by go_simp) ⟨cell_later' e0 B6, cell_later' e1 B6, cell_later' e2 B6⟩ ?_
          simp only [Act.put, List.setIfInBounds_toArray, List.set_cons_zero, List.set_cons_succ]
          refine take_at 8 (some 69) (.int .i64 (j : Int)) rfl rfl (by kernel_rfl) (by kernel_rfl) (by kernel_rfl) (fun _ _ _ h => h) (by rfl) (fun W hSw => by go_simp) ⟨cell_later' e0 B6, cell_later' e1 B6, cell_later' e2 B6⟩ ?_
          simp only [Act.put, List.setIfInBounds_toArray, List.set_cons_zero, List.set_cons_succ]
          refine take_at 9 (some 70) (.pointer (some ⟨b, off + j * 6, none⟩)) rfl rfl (by kernel_rfl) (by kernel_rfl) (by kernel_rfl) (fun _ _ _ h => h) (by rfl) (fun W hSw => by go_simp) ⟨cell_later' e0 B6, cell_later' e1 B6, cell_later' e2 B6⟩ ?_
          simp only [Act.put, List.setIfInBounds_toArray, List.set_cons_zero, List.set_cons_succ]
          refine take_at 10 (some 71) (.pointer (some ⟨b, off + j * 6 + 1, none⟩)) rfl rfl (by kernel_rfl) (by kernel_rfl) (by kernel_rfl) (fun _ _ _ h => h) (by rfl) (fun W hSw => by go_simp) ⟨cell_later' e0 B6, cell_later' e1 B6, cell_later' e2 B6⟩ ?_
          simp only [Act.put, List.setIfInBounds_toArray, List.set_cons_zero, List.set_cons_succ]
          refine take_at 11 (some 72) (.agg #[.bool x.ov, .int .i64 x.n]) rfl rfl (by kernel_rfl) (by kernel_rfl) (by kernel_rfl) (fun _ _ _ h => h) (by rfl) (fun W hSw => by obtain ⟨s0, s1, s2⟩ := hSw; go_simp) ⟨cell_later' e0 B6, cell_later' e1 B6, cell_later' e2 B6⟩ ?_
          simp only [Act.put, List.setIfInBounds_toArray, List.set_cons_zero, List.set_cons_succ]
          refine wpAnyH_ready (rs := [5]) (by kernel_rfl) (by simp) ?_
          refine AllReadyH.cons rfl (fun K hK => ?_) AllReadyH.nil
          go_simp
          refine (hpr _ hp6).mono ?_
          rintro e w7' ⟨rfl, hb7⟩
          have B7 := Below.chain B6 hb7
          have K7 := K6.trans (Keep.of hb7 (fun b hb' => Nat.lt_of_lt_of_le hb'.1 K6.size))
          have kp7 := kp6.later hb7
          refine hK.out _ _ ?_ (fun _ => ?_)
          · exact ⟨cell_later' e0 B7, cell_later' e1 B7, cell_later' e2 B7⟩
          clear hK K
          refine take_at 6 (some 67) (tx T1) rfl rfl (by kernel_rfl) (by kernel_rfl) (by kernel_rfl) (fun _ _ _ h => h) (by rfl) (fun W hSw => by exact exec_add rfl P [32] rfl rfl (by simp; omega) T1 H1.out W) ⟨cell_later' e0 B7, cell_later' e1 B7, cell_later' e2 B7⟩ ?_
          simp only [Act.put, List.setIfInBounds_toArray, List.set_cons_zero, List.set_cons_succ]
          refine wpAnyH_ready (rs := [12]) (by kernel_rfl) (by simp) ?_
          refine AllReadyH.cons rfl (fun K hK => ?_) AllReadyH.nil
          go_simp
          refine (hfp _).mono ?_
          rintro e w8' ⟨rfl, hb8⟩
          have B8 := Below.chain B7 hb8
          have K8 := K7.trans (Keep.of hb8 (fun b hb' => Nat.lt_of_lt_of_le hb'.1 K7.size))
          have kp8 := kp7.later hb8
          refine hK.out _ _ ?_ (fun _ => ?_)
          · exact ⟨cell_later' e0 B8, cell_later' e1 B8, cell_later' e2 B8⟩
          clear hK K
          refine take_at 13 (some 74) (tx T2) rfl rfl (by kernel_rfl) (by kernel_rfl) (by kernel_rfl) (fun _ _ _ h => h) (by rfl) (fun W hSw => by exact exec_add rfl T1 N rfl rfl (by omega) T2 H2.out W) ⟨cell_later' e0 B8, cell_later' e1 B8, cell_later' e2 B8⟩ ?_
          simp only [Act.put, List.setIfInBounds_toArray, List.set_cons_zero, List.set_cons_succ]
          refine take_at 14 (some 8) (tx T2) rfl rfl (by kernel_rfl) (by kernel_rfl) (by kernel_rfl) (fun _ _ _ h => h) (by rfl) (fun W hSw => by go_simp) ⟨cell_later' e0 B8, cell_later' e1 B8, cell_later' e2 B8⟩ ?_
          simp only [Act.put, List.setIfInBounds_toArray, List.set_cons_zero, List.set_cons_succ]
          refine wpAnyH_done (by kernel_rfl) ?_ _
          refine NoPanic.normal ?_
          rcases hasB x.has with hh | hh
          · have HSE : Hid (SL = T2 ++ (32 :: D)) := by show _ = _; rw [HSL.out, hh]; rfl
            have k3 := cell_later' e3 B8
            have k4 := cell_later' e4 B8
            rw [hh] at k4
            clear hh HSL
            obtain ⟨T3, hT3⟩ : ∃ t, t = T2 ++ [32] := ⟨_, rfl⟩
            have hS4 : SL = T3 ++ D := by rw [HSE.out, hT3]; simp
            have l3 : T3.length ≤ 1702 := by rw [hT3]; simp; omega
            have l4 : SL.length ≤ 1722 := by rw [hS4]; simp; omega
            have x1 : ((⟨T2.toArray⟩ : ByteArray) ++ ⟨#[32]⟩) = ⟨T3.toArray⟩ := by rw [hT3]; exact ba_append T2 [32]
            have x2 : ((⟨T3.toArray⟩ : ByteArray) ++ ⟨D.toArray⟩) = ⟨SL.toArray⟩ := by rw [hS4]; exact ba_append _ _
            clear hT3 hS4 HSE
            go_wp2_with fail
            refine (hdg _).mono ?_
            rintro e w9' ⟨rfl, hb9⟩
            have B9 := Below.chain B8 hb9
            have K9 := K8.trans (Keep.of hb9 (fun b hb' => Nat.lt_of_lt_of_le hb'.1 K8.size))
            have kp9 := kp8.later hb9
            clear k3 k4
            by_cases hlong : 300 < SL.length
            · have HF : Hid (R = []) := HGN.out (by rw [Bool.eq_false_iff]; intro hg; have := (HGI.out.1 hg).2; omega)
              have hl3 : (300 : Int) < SL.length := by omega
              clear hlong
              go_wp2
              go_ret
              exact ⟨by rw [HF.out]; rfl, B9⟩
            · have HG2 : Hid _ := HGY.out (HGI.out.2 ⟨HI.out, by omega⟩)
              have hl3 : ¬ (300 : Int) < SL.length := by omega
              clear hlong
              obtain ⟨U1, hU1⟩ : ∃ t, t = S ++ SL := ⟨_, rfl⟩
              obtain ⟨U2, hU2⟩ : ∃ t, t = U1 ++ [10] := ⟨_, rfl⟩
              have HU : Hid (U2 = S ++ (SL ++ [10])) := by show _ = _; rw [hU2, hU1]; simp
              have u1 : U1.length ≤ 8300 := by rw [hU1]; simp; omega
              have v1 : ((⟨S.toArray⟩ : ByteArray) ++ ⟨SL.toArray⟩) = ⟨U1.toArray⟩ := by rw [hU1]; exact ba_append _ _
              have v2 : ((⟨U1.toArray⟩ : ByteArray) ++ ⟨#[10]⟩) = ⟨U2.toArray⟩ := by rw [hU2]; exact ba_append U1 [10]
              clear hU1 hU2
              go_wp2
              go_roundw
              case rel => exact ⟨j + 1, nv, kv, ns, ks, by omega, by rw [HTX.out, ← HU.out], by go_num, kp9, HNK.out, by omega, (fun s => by rw [HT2.out]; exact HLK.out s), HG2, K9⟩
              case measure => simp [intOf]; omega
          · have HSE : Hid (SL = T2) := by show _ = _; rw [HSL.out, hh]; simp
            have k4 := cell_later' e4 B8
            rw [hh] at k4
            have e' := HSE.out
            subst e'
            clear hh HSL
            by_cases hlong : 300 < SL.length
            · have HF : Hid (R = []) := HGN.out (by rw [Bool.eq_false_iff]; intro hg; have := (HGI.out.1 hg).2; omega)
              have hl3 : (300 : Int) < SL.length := by omega
              clear hlong
              go_wp2
              go_ret
              exact ⟨by rw [HF.out]; rfl, B8⟩
            · have HG2 : Hid _ := HGY.out (HGI.out.2 ⟨HI.out, by omega⟩)
              have hl3 : ¬ (300 : Int) < SL.length := by omega
              clear hlong
              obtain ⟨U1, hU1⟩ : ∃ t, t = S ++ SL := ⟨_, rfl⟩
              obtain ⟨U2, hU2⟩ : ∃ t, t = U1 ++ [10] := ⟨_, rfl⟩
              have HU : Hid (U2 = S ++ (SL ++ [10])) := by show _ = _; rw [hU2, hU1]; simp
              have u1 : U1.length ≤ 8300 := by rw [hU1]; simp; omega
              have v1 : ((⟨S.toArray⟩ : ByteArray) ++ ⟨SL.toArray⟩) = ⟨U1.toArray⟩ := by rw [hU1]; exact ba_append _ _
              have v2 : ((⟨U1.toArray⟩ : ByteArray) ++ ⟨#[10]⟩) = ⟨U2.toArray⟩ := by rw [hU2]; exact ba_append U1 [10]
              clear hU1 hU2
              go_wp2
              go_roundw
              case rel => exact ⟨j + 1, nv, kv, ns, ks, by omega, by rw [HTX.out, ← HU.out], by go_num, kp8, HNK.out, by omega, (fun s => by rw [HT2.out]; exact HLK.out s), HG2, K8⟩
              case measure => simp [intOf]; omega
        · have heq' : (kk mn != (q : Int)) = true := by rw [bne_iff_ne]; exact heq
          have HT2 : Hid (kst zk (o.take (j + 1)) = upd kk mn q) := by show _ = _; rw [HT2.out, if_neg heq]
          have HT1 : Hid (prL zk (o.take (j + 1)) = PL ++ [KL] ++ [SL]) := by show _ = _; rw [HT1.out, HONE.out, if_neg heq]; simp
          clear heq
          refine take_at 8 (some 38) (.bool true) rfl rfl (by kernel_rfl) (by kernel_rfl) (by kernel_rfl) (fun _ _ _ h => h) (by rfl) (fun W hSw => by go_simp) S4 ?_
          simp only [Act.put, List.setIfInBounds_toArray, List.set_cons_zero, List.set_cons_succ]
          refine wpAnyH_done (by kernel_rfl) ?_ _
          refine NoPanic.normal ?_
          clear S4
          have hst := kset_any w4' w2.heap.size w.heap.size nv kv ns ks mn (q : Int) hkp4 HNK.out (by omega) K4.size
          have k5 := cell_later' e5 B4
          go_wp2_with fail
          refine hst.mono ?_
          rintro e w5' ⟨rfl, nv', kv', kp5, K5', hn5, hk5⟩
          have K5 : Keep (fun b => b < w2.heap.size ∧ b ≠ w.heap.size) w2 w5' := K4.trans (K5'.mono (far_of hkp4 K4.size))
          have B5 := hBk _ K5
          clear k5
          obtain ⟨pl1, pl2⟩ := pN_pK HNK.out mn (q : Int)
          have HPL : Hid _ := pl1
          clear pl1
          have hnq5 := keep_cell K5 ⟨by omega, by omega⟩ hnq
          have k5 := cell_later' e5 B5
          obtain ⟨S0, hS0⟩ : ∃ t, t = ended PL := ⟨_, rfl⟩
          rw [← hS0]
          obtain ⟨S1, hS1⟩ : ∃ t, t = S0 ++ [35, 32, 84, 89, 80, 69, 32] := ⟨_, rfl⟩
          obtain ⟨S2, hS2⟩ : ∃ t, t = S1 ++ mn := ⟨_, rfl⟩
          obtain ⟨S3, hS3⟩ : ∃ t, t = S2 ++ [32] := ⟨_, rfl⟩
          obtain ⟨S4, hS4⟩ : ∃ t, t = S3 ++ KW := ⟨_, rfl⟩
          obtain ⟨S, hS⟩ : ∃ t, t = S4 ++ [10] := ⟨_, rfl⟩
          have HS : Hid (S = ended (PL ++ [KL])) := by show _ = _; rw [hS, hS4, hS3, hS2, hS1, hS0, ended_append, ended_one, HKL.out]; simp
          have m0 : S0.length ≤ 7224 := by rw [hS0]; omega
          have m1 : S1.length ≤ 7231 := by rw [hS1]; simp; omega
          have m2 : S2.length ≤ 7251 := by rw [hS2]; simp; omega
          have m3 : S3.length ≤ 7252 := by rw [hS3]; simp; omega
          have m4 : S4.length ≤ 7259 := by rw [hS4]; simp; omega
          have ls : S.length ≤ 8000 := by rw [hS]; simp; omega
          have g1 : ((⟨S0.toArray⟩ : ByteArray) ++ ⟨#[35, 32, 84, 89, 80, 69, 32]⟩) = ⟨S1.toArray⟩ := by rw [hS1]; exact ba_append S0 [35, 32, 84, 89, 80, 69, 32]
          have g2 : ((⟨S1.toArray⟩ : ByteArray) ++ ⟨mn.toArray⟩) = ⟨S2.toArray⟩ := by rw [hS2]; exact ba_append _ _
          have g3 : ((⟨S2.toArray⟩ : ByteArray) ++ ⟨#[32]⟩) = ⟨S3.toArray⟩ := by rw [hS3]; exact ba_append S2 [32]
          have g4 : ((⟨S3.toArray⟩ : ByteArray) ++ ⟨KW.toArray⟩) = ⟨S4.toArray⟩ := by rw [hS4]; exact ba_append _ _
          have g5 : ((⟨S4.toArray⟩ : ByteArray) ++ ⟨#[10]⟩) = ⟨S.toArray⟩ := by rw [hS]; exact ba_append S4 [10]
          have HTX : Hid (ended (prL zk (o.take (j + 1))) = S ++ (SL ++ [10])) := by show _ = _; rw [HT1.out, ended_append, ended_one, HS.out]
          clear hS hS0 hS1 hS2 hS3 hS4
          go_wp2_with fail
          clear g1 g2 g3 g4 g5 m0 m1 m2 m3 m4 k5 hnq5
          have D6 : Below w5'.heap.size w5' w5'.drew := (Below.refl _ _).drew
          have B6 := Below.chain B5 D6
          have K6 : Keep (fun b => b < w2.heap.size ∧ b ≠ w.heap.size) w2 w5'.drew := K5.trans (Keep.of D6 (fun b hb' => Nat.lt_of_lt_of_le hb'.1 K5.size))
          have kp6 := kp5.later D6
          have hp6 := hps.later B6
          refine wp_region_noPanic ?_
          refine wp_region_held_drew (S := (fun W => W.cell? ⟨b, off + j * 6, none⟩ = some (.slice la x.ls.length lc) ∧ W.cell? ⟨b, off + j * 6 + 1, none⟩ = some (.bool x.ov) ∧ W.cell? ⟨b, off + j * 6 + 2, none⟩ = some (.int .i64 x.n))) (by kernel_rfl) ?_ (fun _ => ?_)
          · exact ⟨cell_later' e0 B6, cell_later' e1 B6, cell_later' e2 B6⟩
          generalize w5'.drew = w6' at *
          refine take_at 0 (some 61) (.slice (some ⟨b, off, none⟩) n cap) rfl rfl (by kernel_rfl) (by kernel_rfl) (by kernel_rfl) (fun _ _ _ h => h) (by rfl) (fun W hSw => by go_simp) ⟨cell_later' e0 B6, cell_later' e1 B6, cell_later' e2 B6⟩ ?_
          simp only [Act.put, List.setIfInBounds_toArray, List.set_cons_zero, List.set_cons_succ]
          refine take_at 1 (some 62) (.int .i64 (j : Int)) rfl rfl (by kernel_rfl) (by kernel_rfl) (by kernel_rfl) (fun _ _ _ h => h) (by rfl) (fun W hSw => by go_simp) ⟨cell_later' e0 B6, cell_later' e1 B6, cell_later' e2 B6⟩ ?_
          simp only [Act.put, List.setIfInBounds_toArray, List.set_cons_zero, List.set_cons_succ]
          refine take_at 2 (some 63) (.pointer (some ⟨b, off + j * 6, none⟩)) rfl rfl (by kernel_rfl) (by kernel_rfl) (by kernel_rfl) (fun _ _ _ h => h) (by rfl) (fun W hSw => by go_simp) ⟨cell_later' e0 B6, cell_later' e1 B6, cell_later' e2 B6⟩ ?_
          simp only [Act.put, List.setIfInBounds_toArray, List.set_cons_zero, List.set_cons_succ]
          refine take_at 3 (some 64) (.pointer (some ⟨b, off + j * 6, none⟩)) rfl rfl (by kernel_rfl) (by kernel_rfl) (by kernel_rfl) (fun _ _ _ h => h) (by rfl) (fun W hSw => by go_simp) ⟨cell_later' e0 B6, cell_later' e1 B6, cell_later' e2 B6⟩ ?_
          simp only [Act.put, List.setIfInBounds_toArray, List.set_cons_zero, List.set_cons_succ]
          refine take_at 4 (some 65) (.slice la x.ls.length lc) rfl rfl (by kernel_rfl) (by kernel_rfl) (by kernel_rfl) (fun _ _ _ h => h) (by rfl) (fun W hSw => by obtain ⟨s0, s1, s2⟩ := hSw; go_simp) ⟨cell_later' e0 B6, cell_later' e1 B6, cell_later' e2 B6⟩ ?_
          simp only [Act.put, List.setIfInBounds_toArray, List.set_cons_zero, List.set_cons_succ]
          refine take_at 7 (some 68) (.slice (some ⟨b, off, none⟩) n cap) rfl rfl (by kernel_rfl) (by kernel_rfl) (by kernel_rfl) (fun _ _ _ h => h) (by rfl) (fun W hSw => by go_simp) ⟨cell_later' e0 B6, cell_later' e1 B6, cell_later' e2 B6⟩ ?_
          simp only [Act.put, List.setIfInBounds_toArray, List.set_cons_zero, List.set_cons_succ]
          refine take_at 8 (some 69) (.int .i64 (j : Int)) rfl rfl (by kernel_rfl) (by kernel_rfl) (by kernel_rfl) (fun _ _ _ h => h) (by rfl) (fun W hSw => by go_simp) ⟨cell_later' e0 B6, cell_later' e1 B6, cell_later' e2 B6⟩ ?_
          simp only [Act.put, List.setIfInBounds_toArray, List.set_cons_zero, List.set_cons_succ]
          refine take_at 9 (some 70) (.pointer (some ⟨b, off + j * 6, none⟩)) rfl rfl (by kernel_rfl) (by kernel_rfl) (by kernel_rfl) (fun _ _ _ h => h) (by rfl) (fun W hSw => by go_simp) ⟨cell_later' e0 B6, cell_later' e1 B6, cell_later' e2 B6⟩ ?_
          simp only [Act.put, List.setIfInBounds_toArray, List.set_cons_zero, List.set_cons_succ]
          refine take_at 10 (some 71) (.pointer (some ⟨b, off + j * 6 + 1, none⟩)) rfl rfl (by kernel_rfl) (by kernel_rfl) (by kernel_rfl) (fun _ _ _ h => h) (by rfl) (fun W hSw => by go_simp) ⟨cell_later' e0 B6, cell_later' e1 B6, cell_later' e2 B6⟩ ?_
          simp only [Act.put, List.setIfInBounds_toArray, List.set_cons_zero, List.set_cons_succ]
          refine take_at 11 (some 72) (.agg #[.bool x.ov, .int .i64 x.n]) rfl rfl (by kernel_rfl) (by kernel_rfl) (by kernel_rfl) (fun _ _ _ h => h) (by rfl) (fun W hSw => by obtain ⟨s0, s1, s2⟩ := hSw; go_simp) ⟨cell_later' e0 B6, cell_later' e1 B6, cell_later' e2 B6⟩ ?_
          simp only [Act.put, List.setIfInBounds_toArray, List.set_cons_zero, List.set_cons_succ]
          refine wpAnyH_ready (rs := [5]) (by kernel_rfl) (by simp) ?_
          refine AllReadyH.cons rfl (fun K hK => ?_) AllReadyH.nil
          go_simp
          refine (hpr _ hp6).mono ?_
          rintro e w7' ⟨rfl, hb7⟩
          have B7 := Below.chain B6 hb7
          have K7 := K6.trans (Keep.of hb7 (fun b hb' => Nat.lt_of_lt_of_le hb'.1 K6.size))
          have kp7 := kp6.later hb7
          refine hK.out _ _ ?_ (fun _ => ?_)
          · exact ⟨cell_later' e0 B7, cell_later' e1 B7, cell_later' e2 B7⟩
          clear hK K
          refine take_at 6 (some 67) (tx T1) rfl rfl (by kernel_rfl) (by kernel_rfl) (by kernel_rfl) (fun _ _ _ h => h) (by rfl) (fun W hSw => by exact exec_add rfl P [32] rfl rfl (by simp; omega) T1 H1.out W) ⟨cell_later' e0 B7, cell_later' e1 B7, cell_later' e2 B7⟩ ?_
          simp only [Act.put, List.setIfInBounds_toArray, List.set_cons_zero, List.set_cons_succ]
          refine wpAnyH_ready (rs := [12]) (by kernel_rfl) (by simp) ?_
          refine AllReadyH.cons rfl (fun K hK => ?_) AllReadyH.nil
          go_simp
          refine (hfp _).mono ?_
          rintro e w8' ⟨rfl, hb8⟩
          have B8 := Below.chain B7 hb8
          have K8 := K7.trans (Keep.of hb8 (fun b hb' => Nat.lt_of_lt_of_le hb'.1 K7.size))
          have kp8 := kp7.later hb8
          refine hK.out _ _ ?_ (fun _ => ?_)
          · exact ⟨cell_later' e0 B8, cell_later' e1 B8, cell_later' e2 B8⟩
          clear hK K
          refine take_at 13 (some 74) (tx T2) rfl rfl (by kernel_rfl) (by kernel_rfl) (by kernel_rfl) (fun _ _ _ h => h) (by rfl) (fun W hSw => by exact exec_add rfl T1 N rfl rfl (by omega) T2 H2.out W) ⟨cell_later' e0 B8, cell_later' e1 B8, cell_later' e2 B8⟩ ?_
          simp only [Act.put, List.setIfInBounds_toArray, List.set_cons_zero, List.set_cons_succ]
          refine take_at 14 (some 8) (tx T2) rfl rfl (by kernel_rfl) (by kernel_rfl) (by kernel_rfl) (fun _ _ _ h => h) (by rfl) (fun W hSw => by go_simp) ⟨cell_later' e0 B8, cell_later' e1 B8, cell_later' e2 B8⟩ ?_
          simp only [Act.put, List.setIfInBounds_toArray, List.set_cons_zero, List.set_cons_succ]
          refine wpAnyH_done (by kernel_rfl) ?_ _
          refine NoPanic.normal ?_
          rcases hasB x.has with hh | hh
          · have HSE : Hid (SL = T2 ++ (32 :: D)) := by show _ = _; rw [HSL.out, hh]; rfl
            have k3 := cell_later' e3 B8
            have k4 := cell_later' e4 B8
            rw [hh] at k4
            clear hh HSL
            obtain ⟨T3, hT3⟩ : ∃ t, t = T2 ++ [32] := ⟨_, rfl⟩
            have hS4 : SL = T3 ++ D := by rw [HSE.out, hT3]; simp
            have l3 : T3.length ≤ 1702 := by rw [hT3]; simp; omega
            have l4 : SL.length ≤ 1722 := by rw [hS4]; simp; omega
            have x1 : ((⟨T2.toArray⟩ : ByteArray) ++ ⟨#[32]⟩) = ⟨T3.toArray⟩ := by rw [hT3]; exact ba_append T2 [32]
            have x2 : ((⟨T3.toArray⟩ : ByteArray) ++ ⟨D.toArray⟩) = ⟨SL.toArray⟩ := by rw [hS4]; exact ba_append _ _
            clear hT3 hS4 HSE
            go_wp2_with fail
            refine (hdg _).mono ?_
            rintro e w9' ⟨rfl, hb9⟩
            have B9 := Below.chain B8 hb9
            have K9 := K8.trans (Keep.of hb9 (fun b hb' => Nat.lt_of_lt_of_le hb'.1 K8.size))
            have kp9 := kp8.later hb9
            clear k3 k4
            by_cases hlong : 300 < SL.length
            · have HF : Hid (R = []) := HGN.out (by rw [Bool.eq_false_iff]; intro hg; have := (HGI.out.1 hg).2; omega)
              have hl3 : (300 : Int) < SL.length := by omega
              clear hlong
              go_wp2
              go_ret
              exact ⟨by rw [HF.out]; rfl, B9⟩
            · have HG2 : Hid _ := HGY.out (HGI.out.2 ⟨HI.out, by omega⟩)
              have hl3 : ¬ (300 : Int) < SL.length := by omega
              clear hlong
              obtain ⟨U1, hU1⟩ : ∃ t, t = S ++ SL := ⟨_, rfl⟩
              obtain ⟨U2, hU2⟩ : ∃ t, t = U1 ++ [10] := ⟨_, rfl⟩
              have HU : Hid (U2 = S ++ (SL ++ [10])) := by show _ = _; rw [hU2, hU1]; simp
              have u1 : U1.length ≤ 8300 := by rw [hU1]; simp; omega
              have v1 : ((⟨S.toArray⟩ : ByteArray) ++ ⟨SL.toArray⟩) = ⟨U1.toArray⟩ := by rw [hU1]; exact ba_append _ _
              have v2 : ((⟨U1.toArray⟩ : ByteArray) ++ ⟨#[10]⟩) = ⟨U2.toArray⟩ := by rw [hU2]; exact ba_append U1 [10]
              clear hU1 hU2
              go_wp2
              go_roundw
              case rel => exact ⟨j + 1, nv', kv', (pN ns mn), (pK ns ks mn q), by omega, by rw [HTX.out, ← HU.out], by go_num, kp9, HPL.out, by omega, (fun s => by rw [HT2.out, lk_put HNK.out, HLK.out s]; rfl), HG2, K9⟩
              case measure => simp [intOf]; omega
          · have HSE : Hid (SL = T2) := by show _ = _; rw [HSL.out, hh]; simp
            have k4 := cell_later' e4 B8
            rw [hh] at k4
            have e' := HSE.out
            subst e'
            clear hh HSL
            by_cases hlong : 300 < SL.length
            · have HF : Hid (R = []) := HGN.out (by rw [Bool.eq_false_iff]; intro hg; have := (HGI.out.1 hg).2; omega)
              have hl3 : (300 : Int) < SL.length := by omega
              clear hlong
              go_wp2
              go_ret
              exact ⟨by rw [HF.out]; rfl, B8⟩
            · have HG2 : Hid _ := HGY.out (HGI.out.2 ⟨HI.out, by omega⟩)
              have hl3 : ¬ (300 : Int) < SL.length := by omega
              clear hlong
              obtain ⟨U1, hU1⟩ : ∃ t, t = S ++ SL := ⟨_, rfl⟩
              obtain ⟨U2, hU2⟩ : ∃ t, t = U1 ++ [10] := ⟨_, rfl⟩
              have HU : Hid (U2 = S ++ (SL ++ [10])) := by show _ = _; rw [hU2, hU1]; simp
              have u1 : U1.length ≤ 8300 := by rw [hU1]; simp; omega
              have v1 : ((⟨S.toArray⟩ : ByteArray) ++ ⟨SL.toArray⟩) = ⟨U1.toArray⟩ := by rw [hU1]; exact ba_append _ _
              have v2 : ((⟨U1.toArray⟩ : ByteArray) ++ ⟨#[10]⟩) = ⟨U2.toArray⟩ := by rw [hU2]; exact ba_append U1 [10]
              clear hU1 hU2
              go_wp2
              go_roundw
              case rel => exact ⟨j + 1, nv', kv', (pN ns mn), (pK ns ks mn q), by omega, by rw [HTX.out, ← HU.out], by go_num, kp8, HPL.out, by omega, (fun s => by rw [HT2.out, lk_put HNK.out, HLK.out s]; rfl), HG2, K8⟩
              case measure => simp [intOf]; omega
      · have HF : Hid (R = []) := HGN.out (by rw [Bool.eq_false_iff]; intro hg; have := (HGI.out.1 hg).1; rw [hI] at this; cases this)
        rw [hI]
        clear hI
        go_wp2
        go_ret
        exact ⟨by rw [HF.out]; rfl, B3⟩
    · have HT : Hid (prL zk (o.take j) = prL zk o) := by show _ = _; rw [List.take_of_length_le (by rw [HL.out]; omega)]
      have HF : Hid (R = ended (prL zk o)) := HYES.out (fun x hx => HG.out x (by rw [List.take_of_length_le (by rw [HL.out]; omega)]; exact hx))
      rw [HT.out]
      generalize ended (prL zk o) = PL at *
      clear hcell HNO HYES HG HT
      go_wp2
      go_ret
      exact ⟨by rw [HF.out]; rfl, hb⟩
end Go.Proofs.YtcbjhfnlhpallaaGreatDoor
