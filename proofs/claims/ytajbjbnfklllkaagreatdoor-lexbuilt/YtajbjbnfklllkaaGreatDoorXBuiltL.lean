/- LexBuilt: for every numbers, and texts of more than 30 bytes. -/
import Derived.Test.YtajbjbnfklllkaaGreatDoorXBuiltQ
namespace Go.Proofs.YtajbjbnfklllkaaGreatDoor
open Go.RowKit

set_option maxHeartbeats 16000000 in
set_option maxRecDepth 400000 in
theorem built_long (n d : Nat) (t : Str) (g : Nat) (w : World) (hn : n ≤ 4294967295) (hd : d ≤ 65535) (ht : t.length ≤ 9223372036854775807) (hg : g ≤ 255) (he : Ev w) (H30 : 30 < t.length) : Calls Tryz.prog 6 #[.int .u32 n, .int .u16 d, tx t, .int .u8 g] w fun e w' => e = .returned (.bool true) ∧ Below w.heap.size w w' := by
  have hk := known_any w he
  by_cases h60 : 60 < t.length
  · have h60' : (60 : Int) < t.length := by omega
    clear h60
    go_enter Tryz.func6, Tryz.ntmps6
    go_wp2_with fail
    refine hk.mono ?_
    rintro e w1 ⟨rfl, hb1⟩
    go_wp2
    go_ret
    exact ⟨rfl, hb1⟩
  · have h60' : ¬ (60 : Int) < t.length := by omega
    obtain ⟨m, hm⟩ : ∃ m : Nat, m = min t.length 30 := ⟨_, rfl⟩
    have hmi : min (t.length : Int) 30 = (m : Int) := by omega
    have hml : (m : Int) ≤ t.length := by omega
    have hv1 := fun W => refValue_any (t.take m) W (by simp; omega)
    have hex1 : (⟨t.toArray⟩ : ByteArray).extract 0 m = ⟨(t.take m).toArray⟩ := Fx.ba_take t m
    cases hV1 : rVal (t.take m) with
    | false =>
      rw [hV1] at hv1
      clear hV1 h60 hm
      generalize t.take m = t1 at *
      go_enter Tryz.func6, Tryz.ntmps6
      go_wp2_with fail
      refine hk.mono ?_
      rintro e w1 ⟨rfl, hb1⟩
      go_wp2_with fail
      refine (hv1 _).mono ?_
      rintro e w2 ⟨rfl, rfl⟩
      go_wp2
      go_ret
      exact ⟨rfl, hb1⟩
    | true =>
      rw [hV1] at hv1
      have HL1 := val_line hV1
      obtain ⟨DD, hDD⟩ : ∃ DD : Nat, DD = d % 200 := ⟨_, rfl⟩
      have hdm : (d : Int) % 200 = (DD : Int) := by omega
      have hD2 : DD ≤ 199 := by omega
      have HDR : Hid _ := dur_one hD2
      have htm : (d : Int).tmod 200 = (DD : Int) := by rw [Int.tmod_eq_emod_of_nonneg (by omega)]; exact hdm
      have hwn1 : IntKind.i64.wrap (n : Int) = (n : Int) := by rw [IntKind.wrap_i64]; omega
      have hwn2 : IntKind.i64.wrap ((n : Int) * 1000000) = (n : Int) * 1000000 := by rw [IntKind.wrap_i64]; omega
      have hwn3 : IntKind.i64.wrap (DD : Int) = (DD : Int) := by rw [IntKind.wrap_i64]; omega
      have hdn := fun W => Fx.rdigits_any n W (by omega)
      have hdd := fun W => Fx.rdigits_any DD W (by omega)
      have hl1 := Fx.dec_short (u := n) (by omega)
      have hl2 := Fx.dec_short (u := DD) (by omega)
      have hs1 := fun W (hW : Ev W) => scan_any (Lib.decDigits n) W (by omega) hW
      rw [(num_one hn).1, (num_one hn).2] at hs1
      have hs2 := fun W (hW : Ev W) => scan_any (Lib.decDigits DD ++ [116]) W (by simp; omega) hW
      have aD : (⟨(Lib.decDigits DD).toArray⟩ : ByteArray) ++ ⟨#[116]⟩ = ⟨(Lib.decDigits DD ++ [116]).toArray⟩ := ba_append _ [116]
      have hqt := fun W => refQuote_any t W (by omega)
      have hel := esc_len t
      have hs3 := fun W (hW : Ev W) => scan_any ([34] ++ esc t ++ [34]) W (by simp; omega) hW
      clear hDD
      obtain ⟨S2, eS2⟩ : ∃ S2, S2 = Lib.decDigits DD ++ [116] := ⟨_, rfl⟩
      rw [← eS2] at hs2 aD HDR
      generalize Lib.decDigits n = S1 at *
      clear eS2
      generalize Lib.decDigits DD = S0 at *
      by_cases h30 : t.length ≤ 30
      · have h30' : ¬ (30 : Int) < t.length := by omega
        have h30'' : (t.length : Int) ≤ 30 := by omega
        omega
      · have h30' : (30 : Int) < t.length := by omega
        have h30'' : ¬ (t.length : Int) ≤ 30 := by omega
        have hod : Hid (decide ((t.length : Int) ≤ 30) = false) := decide_eq_false h30''
        have hv2 := fun W => refValue_any (t.drop 30) W (by simp; omega)
        have hex2 : (⟨t.toArray⟩ : ByteArray).extract 30 t.length = ⟨(t.drop 30).toArray⟩ := ex_tail t 30
        have hm2 : min (t.length : Int) 60 = (t.length : Int) := by omega
        cases hV2 : rVal (t.drop 30) with
        | false =>
          rw [hV2] at hv2
          clear hV2 h60 hm h30 HL1 hV1 hs1 hs2 hs3 hdn hdd hqt HDR
          generalize t.take m = t1 at *
          generalize t.drop 30 = t2 at *
          go_enter Tryz.func6, Tryz.ntmps6
          go_wp2_with fail
          refine hk.mono ?_
          rintro e w1 ⟨rfl, hb1⟩
          go_wp2_with fail
          refine (hv1 _).mono ?_
          rintro e w2 ⟨rfl, rfl⟩
          go_wp2_with fail
          refine (hv2 _).mono ?_
          rintro e w2 ⟨rfl, rfl⟩
          go_wp2
          go_ret
          exact ⟨rfl, hb1⟩
        | true =>
          rw [hV2] at hv2
          have HL2 := val_line hV2
          have HL : t.contains 10 = false := by
            have e := List.take_append_drop 30 t
            obtain rfl : m = 30 := by omega
            rw [← e]
            have h1 : ¬ (10 : UInt8) ∈ t.take 30 := fun h => by rw [List.contains_iff_mem.2 h] at HL1; cases HL1
            have h2 : ¬ (10 : UInt8) ∈ t.drop 30 := fun h => by rw [List.contains_iff_mem.2 h] at HL2; cases HL2
            rw [← Bool.not_eq_true, List.contains_iff_mem]
            intro h
            rcases List.mem_append.1 h with h | h
            · exact h1 h
            · exact h2 h
          rcases text_one (t := t) (by omega) HL with ⟨T1, _, _⟩ | ⟨_, T3, T4⟩
          · omega
          · rw [T3, T4] at hs3
            clear T3 T4 HL1 HL2 HL hV1 hV2 h60 hm h30
            generalize t.take m = t1 at *
            generalize t.drop 30 = t2 at *
            generalize [34] ++ esc t ++ [34] = S3 at *
            go_enter Tryz.func6, Tryz.ntmps6
            go_wp2_with fail
            refine hk.mono ?_
            rintro e w1 ⟨rfl, hb1⟩
            go_wp2_with fail
            refine (hv1 _).mono ?_
            rintro e w2 ⟨rfl, rfl⟩
            go_wp2_with fail
            refine (hv2 _).mono ?_
            rintro e w2 ⟨rfl, rfl⟩
            obtain ⟨kk, hkk⟩ : ∃ kk : Nat, kk = g % 30 + 1 := ⟨_, rfl⟩
            have hgm : (g : Int) % 30 = (kk : Int) - 1 := by omega
            have hk1 : 1 ≤ kk := by omega
            have hk30 : kk ≤ 30 := by omega
            have HNM : Hid _ := name_one hk1 hk30
            clear hkk
            go_wp2_with fail
            go_loop [10, 11] (fun u i => ∃ (j : Nat) (q : Str), j ≤ kk ∧ i = .int .i64 j ∧ u = tx q ∧ q.length = j ∧ Hid (q = List.replicate j 97)) (fun _ i => kk - (intOf i).toNat)
            case atStart => exact ⟨0, [], by omega, rfl, rfl, rfl, rfl⟩
            case round =>
              obtain ⟨j, q, hj, rfl, rfl, hql, HQ⟩ := hrel
              have HQL : Hid (q.length = j) := hql
              have hqb : q.length ≤ 30 := by omega
              clear hql
              by_cases hlt : j < kk
              · have a1 : (⟨q.toArray⟩ : ByteArray) ++ ⟨#[97]⟩ = ⟨(q ++ [97]).toArray⟩ := ba_append q [97]
                have HQ2 : Hid (q ++ [97] = List.replicate (j + 1) 97) := by show _ = _; rw [HQ.out, List.replicate_succ', ]
                have hq2 : (q ++ [97]).length = j + 1 := by rw [List.length_append, HQL.out]; rfl
                have HQ3 : Hid ((q ++ [97]).length = j + 1) := hq2
                obtain ⟨q2, e2⟩ : ∃ q2, q2 = q ++ [97] := ⟨_, rfl⟩
                rw [← e2] at a1 HQ2 HQ3
                clear hq2 e2 HQ
                have hjk : (j : Int) < (kk : Int) := by omega
                go_wp2
                go_round
                case rel => exact ⟨j + 1, q2, by omega, by go_num, rfl, HQ3.out, HQ2⟩
                case measure => simp [intOf]; omega
              · obtain rfl : j = kk := by omega
                rw [← HQ.out] at HNM
                have hs4 := fun W (hW : Ev W) => scan_any q W (by omega) hW
                clear HQ
                have hjk : ¬ (j : Int) < (j : Int) := by omega
                go_wp2_with fail
                refine (hdn _).mono ?_
                rintro e w2 ⟨rfl, hb2⟩
                have B2 := Below.chain hb1 hb2
                go_wp2_with fail
                refine (hs1 _ (he.later B2)).mono ?_
                rintro e w3 ⟨v1, rfl, ho1, hb3⟩
                have B3 := Below.chain B2 hb3
                go_wp2_with fail
                refine (hdd _).mono ?_
                rintro e w4 ⟨rfl, hb4⟩
                have B4 := Below.chain B3 hb4
                go_wp2_with fail
                refine (hs2 _ (he.later B4)).mono ?_
                rintro e w5 ⟨v2, rfl, ho2, hb5⟩
                have B5 := Below.chain B4 hb5
                go_wp2_with fail
                refine (hqt _).mono ?_
                rintro e w6 ⟨rfl, rfl⟩
                go_wp2_with fail
                refine (hs3 _ (he.later B5)).mono ?_
                rintro e w7 ⟨v3, rfl, ho3, hb7⟩
                have B7 := Below.chain B5 hb7
                go_wp2_with fail
                refine (hs4 _ (he.later B7)).mono ?_
                rintro e w8 ⟨v4, rfl, ho4, hb8⟩
                have B8 := Below.chain B7 hb8
                obtain ⟨g1, cap1, rfl, hc1, A1⟩ := two_cells ho1
                have A1 := (((A1.later hb4).later hb5).later hb7).later hb8
                obtain ⟨x10, x11, x12, x13, x14, x15⟩ := A1
                obtain ⟨ao3, cap3, rfl, _, _, _⟩ := ho3.slice
                have y14 : w8.cell? ⟨g1, 4, none⟩ = some (.int .i64 ((n : Int) * 1000000)) := x14
                clear x10 x11 x12 x13 x14 x15
                clear hs1 hs2 hs3 hs4 hdn hdd hqt ho1 ho3
                rcases HDR.out with ⟨D1, D2, D3, D4⟩ | ⟨D1, D3, D4⟩
                · rw [D4] at ho2
                  obtain ⟨g2, cap2, rfl, hc2, A2⟩ := two_cells ho2
                  have A2 := (A2.later hb7).later hb8
                  obtain ⟨x20, x21, x22, x23, x24, x25⟩ := A2
                  have y25 : w8.cell? ⟨g2, 5, none⟩ = some (.int .i64 (DD : Nat)) := x25
                  clear x20 x21 x22 x23 x24 x25 ho2
                  rw [D3]
                  have p1 : (1 : Int) ≤ DD := by omega
                  have p2 : (DD : Int) ≤ 100 := by omega
                  clear D1 D2 D3 D4 HDR
                  rcases HNM.out with ⟨N1, N3, N4⟩ | ⟨N1, N3, N4⟩
                  · rw [N4] at ho4
                    obtain ⟨g4, cap4, rfl, hc4, A4⟩ := two_cells ho4
                    obtain ⟨x40, x41, x42, x43, x44, x45⟩ := A4
                    have y42 : w8.cell? ⟨g4, 2, none⟩ = some (tx q) := x42
                    clear x40 x41 x42 x43 x44 x45 ho4
                    rw [N3]
                    have r1 : (j : Int) ≤ 20 := by omega
                    clear N3 N4 HNM
                    go_upto_region 16 with fail
                    rw [hod.out]
                    refine wp_region_lit ?_
                    simp only [List.append_eq, List.cons_append, List.nil_append]
                    refine wl_take (some 110) (.int .i64 0) rfl (by kernel_rfl) (by go_simp) ?_
                    simp only [Act.put, List.setIfInBounds_toArray, List.set_cons_zero, List.set_cons_succ]
                    refine wl_take (some 111) (.bool true) rfl (by kernel_rfl) (by go_simp) ?_
                    simp only [Act.put, List.setIfInBounds_toArray, List.set_cons_zero, List.set_cons_succ]
                    refine wl_take (some 112) (.bool true) rfl (by kernel_rfl) (by go_simp) ?_
                    simp only [Act.put, List.setIfInBounds_toArray, List.set_cons_zero, List.set_cons_succ]
                    refine wl_take (some 113) (.slice (some ⟨g1, 0, none⟩) 2 cap1) rfl (by kernel_rfl) (by go_simp) ?_
                    simp only [Act.put, List.setIfInBounds_toArray, List.set_cons_zero, List.set_cons_succ]
                    refine wl_take (some 114) (.pointer (some ⟨g1, 0, none⟩)) rfl (by kernel_rfl) (by go_simp) ?_
                    simp only [Act.put, List.setIfInBounds_toArray, List.set_cons_zero, List.set_cons_succ]
                    refine wl_take (some 115) (.pointer (some ⟨g1, 3, none⟩)) rfl (by kernel_rfl) (by go_simp) ?_
                    simp only [Act.put, List.setIfInBounds_toArray, List.set_cons_zero, List.set_cons_succ]
                    refine wl_take (some 116) (.pointer (some ⟨g1, 4, none⟩)) rfl (by kernel_rfl) (by go_simp) ?_
                    simp only [Act.put, List.setIfInBounds_toArray, List.set_cons_zero, List.set_cons_succ]
                    refine wl_take (some 117) (.int .i64 ((n : Int) * 1000000)) rfl (by kernel_rfl) (by go_simp) ?_
                    simp only [Act.put, List.setIfInBounds_toArray, List.set_cons_zero, List.set_cons_succ]
                    refine wl_take (some 118) (.int .u32 n) rfl (by kernel_rfl) (by go_simp) ?_
                    simp only [Act.put, List.setIfInBounds_toArray, List.set_cons_zero, List.set_cons_succ]
                    refine wl_take (some 119) (.int .i64 n) rfl (by kernel_rfl) (by go_simp) ?_
                    simp only [Act.put, List.setIfInBounds_toArray, List.set_cons_zero, List.set_cons_succ]
                    refine wl_take (some 120) (.int .i64 ((n : Int) * 1000000)) rfl (by kernel_rfl) (by go_simp) ?_
                    simp only [Act.put, List.setIfInBounds_toArray, List.set_cons_zero, List.set_cons_succ]
                    refine wl_take (some 121) (.bool true) rfl (by kernel_rfl) (by go_simp) ?_
                    simp only [Act.put, List.setIfInBounds_toArray, List.set_cons_zero, List.set_cons_succ]
                    refine wl_take (some 122) (.bool true) rfl (by kernel_rfl) (by go_simp) ?_
                    simp only [Act.put, List.setIfInBounds_toArray, List.set_cons_zero, List.set_cons_succ]
                    refine wl_take (some 123) (.bool true) rfl (by kernel_rfl) (by go_simp) ?_
                    simp only [Act.put, List.setIfInBounds_toArray, List.set_cons_zero, List.set_cons_succ]
                    refine wl_take (some 124) (.int .i64 0) rfl (by kernel_rfl) (by go_simp) ?_
                    simp only [Act.put, List.setIfInBounds_toArray, List.set_cons_zero, List.set_cons_succ]
                    refine wl_take (some 125) (.bool true) rfl (by kernel_rfl) (by go_simp) ?_
                    simp only [Act.put, List.setIfInBounds_toArray, List.set_cons_zero, List.set_cons_succ]
                    refine wl_take (some 126) (.bool true) rfl (by kernel_rfl) (by go_simp) ?_
                    simp only [Act.put, List.setIfInBounds_toArray, List.set_cons_zero, List.set_cons_succ]
                    refine wl_take (some 127) (.bool true) rfl (by kernel_rfl) (by go_simp) ?_
                    simp only [Act.put, List.setIfInBounds_toArray, List.set_cons_zero, List.set_cons_succ]
                    refine wl_take (some 128) (.bool true) rfl (by kernel_rfl) (by go_simp) ?_
                    simp only [Act.put, List.setIfInBounds_toArray, List.set_cons_zero, List.set_cons_succ]
                    refine wl_take (some 129) (.bool true) rfl (by kernel_rfl) (by go_simp) ?_
                    simp only [Act.put, List.setIfInBounds_toArray, List.set_cons_zero, List.set_cons_succ]
                    refine wl_take (some 130) (.bool true) rfl (by kernel_rfl) (by go_simp) ?_
                    simp only [Act.put, List.setIfInBounds_toArray, List.set_cons_zero, List.set_cons_succ]
                    refine wl_take (some 131) (.bool false) rfl (by kernel_rfl) (by go_simp) ?_
                    simp only [Act.put, List.setIfInBounds_toArray, List.set_cons_zero, List.set_cons_succ]
                    refine wl_take (some 132) (.bool false) rfl (by kernel_rfl) (by go_simp) ?_
                    simp only [Act.put, List.setIfInBounds_toArray, List.set_cons_zero, List.set_cons_succ]
                    refine wl_take (some 133) (.slice (some ⟨g2, 0, none⟩) 2 cap2) rfl (by kernel_rfl) (by go_simp) ?_
                    simp only [Act.put, List.setIfInBounds_toArray, List.set_cons_zero, List.set_cons_succ]
                    refine wl_take (some 134) (.pointer (some ⟨g2, 0, none⟩)) rfl (by kernel_rfl) (by go_simp) ?_
                    simp only [Act.put, List.setIfInBounds_toArray, List.set_cons_zero, List.set_cons_succ]
                    refine wl_take (some 135) (.pointer (some ⟨g2, 5, none⟩)) rfl (by kernel_rfl) (by go_simp) ?_
                    simp only [Act.put, List.setIfInBounds_toArray, List.set_cons_zero, List.set_cons_succ]
                    refine wl_take (some 136) (.int .i64 (DD : Nat)) rfl (by kernel_rfl) (by go_simp) ?_
                    simp only [Act.put, List.setIfInBounds_toArray, List.set_cons_zero, List.set_cons_succ]
                    refine wl_take (some 137) (.int .u16 d) rfl (by kernel_rfl) (by go_simp) ?_
                    simp only [Act.put, List.setIfInBounds_toArray, List.set_cons_zero, List.set_cons_succ]
                    refine wl_take (some 138) (.int .u16 (DD : Nat)) rfl (by kernel_rfl) (by go_simp) ?_
                    simp only [Act.put, List.setIfInBounds_toArray, List.set_cons_zero, List.set_cons_succ]
                    refine wl_take (some 139) (.int .i64 (DD : Nat)) rfl (by kernel_rfl) (by go_simp) ?_
                    simp only [Act.put, List.setIfInBounds_toArray, List.set_cons_zero, List.set_cons_succ]
                    refine wl_take (some 140) (.bool true) rfl (by kernel_rfl) (by go_simp) ?_
                    simp only [Act.put, List.setIfInBounds_toArray, List.set_cons_zero, List.set_cons_succ]
                    refine wl_take (some 141) (.bool true) rfl (by kernel_rfl) (by go_simp) ?_
                    simp only [Act.put, List.setIfInBounds_toArray, List.set_cons_zero, List.set_cons_succ]
                    refine wl_take (some 142) (.bool true) rfl (by kernel_rfl) (by go_simp) ?_
                    simp only [Act.put, List.setIfInBounds_toArray, List.set_cons_zero, List.set_cons_succ]
                    refine wl_take (some 143) (.bool true) rfl (by kernel_rfl) (by go_simp) ?_
                    simp only [Act.put, List.setIfInBounds_toArray, List.set_cons_zero, List.set_cons_succ]
                    refine wl_take (some 144) (.int .i64 70) rfl (by kernel_rfl) (by go_simp) ?_
                    simp only [Act.put, List.setIfInBounds_toArray, List.set_cons_zero, List.set_cons_succ]
                    refine wl_take (some 145) (.bool false) rfl (by kernel_rfl) (by go_simp) ?_
                    simp only [Act.put, List.setIfInBounds_toArray, List.set_cons_zero, List.set_cons_succ]
                    refine wl_take (some 146) (.bool false) rfl (by kernel_rfl) (by go_simp) ?_
                    simp only [Act.put, List.setIfInBounds_toArray, List.set_cons_zero, List.set_cons_succ]
                    refine wl_take (some 147) (.bool true) rfl (by kernel_rfl) (by go_simp) ?_
                    simp only [Act.put, List.setIfInBounds_toArray, List.set_cons_zero, List.set_cons_succ]
                    refine wl_take (some 148) (.bool true) rfl (by kernel_rfl) (by go_simp) ?_
                    simp only [Act.put, List.setIfInBounds_toArray, List.set_cons_zero, List.set_cons_succ]
                    refine wl_take (some 149) (.bool true) rfl (by kernel_rfl) (by go_simp) ?_
                    simp only [Act.put, List.setIfInBounds_toArray, List.set_cons_zero, List.set_cons_succ]
                    refine wl_take (some 150) (.bool false) rfl (by kernel_rfl) (by go_simp) ?_
                    simp only [Act.put, List.setIfInBounds_toArray, List.set_cons_zero, List.set_cons_succ]
                    obtain ⟨Y, hY⟩ : ∃ Y, Hid (Y = true) := ⟨_, rfl⟩
                    refine wl_take (some 151) (.bool Y) rfl (by kernel_rfl) (by rw [hY.out]; go_simp) ?_
                    simp only [Act.put, List.setIfInBounds_toArray, List.set_cons_zero, List.set_cons_succ]
                    refine wl_take (some 152) (.bool Y) rfl (by kernel_rfl) (by go_simp) ?_
                    simp only [Act.put, List.setIfInBounds_toArray, List.set_cons_zero, List.set_cons_succ]
                    refine wl_skip (some 153) rfl (by rw [hY.out]; kernel_rfl) ?_
                    simp only [Act.put, List.setIfInBounds_toArray, List.set_cons_zero, List.set_cons_succ]
                    refine wl_skip (some 154) rfl (by rw [hY.out]; kernel_rfl) ?_
                    simp only [Act.put, List.setIfInBounds_toArray, List.set_cons_zero, List.set_cons_succ]
                    refine wl_skip (some 155) rfl (by rw [hY.out]; kernel_rfl) ?_
                    simp only [Act.put, List.setIfInBounds_toArray, List.set_cons_zero, List.set_cons_succ]
                    refine wl_skip (some 156) rfl (by rw [hY.out]; kernel_rfl) ?_
                    simp only [Act.put, List.setIfInBounds_toArray, List.set_cons_zero, List.set_cons_succ]
                    refine wl_skip (some 157) rfl (by rw [hY.out]; kernel_rfl) ?_
                    simp only [Act.put, List.setIfInBounds_toArray, List.set_cons_zero, List.set_cons_succ]
                    refine wl_skip (some 158) rfl (by rw [hY.out]; kernel_rfl) ?_
                    simp only [Act.put, List.setIfInBounds_toArray, List.set_cons_zero, List.set_cons_succ]
                    refine wl_skip (some 159) rfl (by rw [hY.out]; kernel_rfl) ?_
                    simp only [Act.put, List.setIfInBounds_toArray, List.set_cons_zero, List.set_cons_succ]
                    refine wl_skip (some 160) rfl (by rw [hY.out]; kernel_rfl) ?_
                    simp only [Act.put, List.setIfInBounds_toArray, List.set_cons_zero, List.set_cons_succ]
                    refine wl_skip (some 161) rfl (by rw [hY.out]; kernel_rfl) ?_
                    simp only [Act.put, List.setIfInBounds_toArray, List.set_cons_zero, List.set_cons_succ]
                    refine wl_skip (some 162) rfl (by rw [hY.out]; kernel_rfl) ?_
                    simp only [Act.put, List.setIfInBounds_toArray, List.set_cons_zero, List.set_cons_succ]
                    refine wl_skip (some 163) rfl (by rw [hY.out]; kernel_rfl) ?_
                    simp only [Act.put, List.setIfInBounds_toArray, List.set_cons_zero, List.set_cons_succ]
                    refine wl_skip (some 164) rfl (by rw [hY.out]; kernel_rfl) ?_
                    simp only [Act.put, List.setIfInBounds_toArray, List.set_cons_zero, List.set_cons_succ]
                    refine wl_skip (some 165) rfl (by rw [hY.out]; kernel_rfl) ?_
                    simp only [Act.put, List.setIfInBounds_toArray, List.set_cons_zero, List.set_cons_succ]
                    refine wl_take (some 166) (.bool true) rfl (by kernel_rfl) (by rw [hY.out]; go_simp) ?_
                    simp only [Act.put, List.setIfInBounds_toArray, List.set_cons_zero, List.set_cons_succ]
                    refine wl_take (some 167) (.bool true) rfl (by kernel_rfl) (by go_simp) ?_
                    simp only [Act.put, List.setIfInBounds_toArray, List.set_cons_zero, List.set_cons_succ]
                    refine wl_take (some 168) (.bool true) rfl (by kernel_rfl) (by go_simp) ?_
                    simp only [Act.put, List.setIfInBounds_toArray, List.set_cons_zero, List.set_cons_succ]
                    refine wl_take (some 169) (.int .i64 0) rfl (by kernel_rfl) (by go_simp) ?_
                    simp only [Act.put, List.setIfInBounds_toArray, List.set_cons_zero, List.set_cons_succ]
                    refine wl_take (some 170) (.bool true) rfl (by kernel_rfl) (by go_simp) ?_
                    simp only [Act.put, List.setIfInBounds_toArray, List.set_cons_zero, List.set_cons_succ]
                    refine wl_take (some 171) (.bool true) rfl (by kernel_rfl) (by go_simp) ?_
                    simp only [Act.put, List.setIfInBounds_toArray, List.set_cons_zero, List.set_cons_succ]
                    refine wl_take (some 172) (.bool true) rfl (by kernel_rfl) (by go_simp) ?_
                    simp only [Act.put, List.setIfInBounds_toArray, List.set_cons_zero, List.set_cons_succ]
                    refine wl_take (some 173) (.bool true) rfl (by kernel_rfl) (by go_simp) ?_
                    simp only [Act.put, List.setIfInBounds_toArray, List.set_cons_zero, List.set_cons_succ]
                    refine wl_take (some 174) (.bool true) rfl (by kernel_rfl) (by go_simp) ?_
                    simp only [Act.put, List.setIfInBounds_toArray, List.set_cons_zero, List.set_cons_succ]
                    refine wl_take (some 175) (.bool true) rfl (by kernel_rfl) (by go_simp) ?_
                    simp only [Act.put, List.setIfInBounds_toArray, List.set_cons_zero, List.set_cons_succ]
                    refine wl_take (some 176) (.bool false) rfl (by kernel_rfl) (by go_simp) ?_
                    simp only [Act.put, List.setIfInBounds_toArray, List.set_cons_zero, List.set_cons_succ]
                    refine wl_take (some 177) (.bool false) rfl (by kernel_rfl) (by go_simp) ?_
                    simp only [Act.put, List.setIfInBounds_toArray, List.set_cons_zero, List.set_cons_succ]
                    refine wl_take (some 178) (.slice (some ⟨g4, 0, none⟩) 2 cap4) rfl (by kernel_rfl) (by go_simp) ?_
                    simp only [Act.put, List.setIfInBounds_toArray, List.set_cons_zero, List.set_cons_succ]
                    refine wl_take (some 179) (.pointer (some ⟨g4, 0, none⟩)) rfl (by kernel_rfl) (by go_simp) ?_
                    simp only [Act.put, List.setIfInBounds_toArray, List.set_cons_zero, List.set_cons_succ]
                    refine wl_take (some 180) (.pointer (some ⟨g4, 2, none⟩)) rfl (by kernel_rfl) (by go_simp) ?_
                    simp only [Act.put, List.setIfInBounds_toArray, List.set_cons_zero, List.set_cons_succ]
                    refine wl_take (some 181) (tx q) rfl (by kernel_rfl) (by go_simp) ?_
                    simp only [Act.put, List.setIfInBounds_toArray, List.set_cons_zero, List.set_cons_succ]
                    refine wl_take (some 182) (tx q) rfl (by kernel_rfl) (by go_simp) ?_
                    simp only [Act.put, List.setIfInBounds_toArray, List.set_cons_zero, List.set_cons_succ]
                    refine wl_take (some 183) (.bool true) rfl (by kernel_rfl) (by go_simp) ?_
                    simp only [Act.put, List.setIfInBounds_toArray, List.set_cons_zero, List.set_cons_succ]
                    refine wl_take (some 184) (.bool true) rfl (by kernel_rfl) (by go_simp) ?_
                    simp only [Act.put, List.setIfInBounds_toArray, List.set_cons_zero, List.set_cons_succ]
                    refine wl_take (some 185) (.bool true) rfl (by kernel_rfl) (by go_simp) ?_
                    simp only [Act.put, List.setIfInBounds_toArray, List.set_cons_zero, List.set_cons_succ]
                    refine wl_take (some 8) (.bool true) rfl (by kernel_rfl) (by go_simp) ?_
                    simp only [Act.put, List.setIfInBounds_toArray, List.set_cons_zero, List.set_cons_succ]
                    refine wpList_nil ?_
                    go_wp2
                    go_ret
                    exact ⟨rfl, B8⟩
                  · rw [N4] at ho4
                    obtain ⟨ao4, cap4, rfl, _, _, _⟩ := ho4.slice
                    rw [N3]
                    have r1 : ¬ (j : Int) ≤ 20 := by omega
                    have rd : Hid (decide ((j : Int) ≤ 20) = false) := decide_eq_false r1
                    clear N3 N4 HNM ho4
                    go_upto_region 16 with fail
                    rw [rd.out]
                    rw [hod.out]
                    refine wp_region_lit ?_
                    simp only [List.append_eq, List.cons_append, List.nil_append]
                    refine wl_take (some 110) (.int .i64 0) rfl (by kernel_rfl) (by go_simp) ?_
                    simp only [Act.put, List.setIfInBounds_toArray, List.set_cons_zero, List.set_cons_succ]
                    refine wl_take (some 111) (.bool true) rfl (by kernel_rfl) (by go_simp) ?_
                    simp only [Act.put, List.setIfInBounds_toArray, List.set_cons_zero, List.set_cons_succ]
                    refine wl_take (some 112) (.bool true) rfl (by kernel_rfl) (by go_simp) ?_
                    simp only [Act.put, List.setIfInBounds_toArray, List.set_cons_zero, List.set_cons_succ]
                    refine wl_take (some 113) (.slice (some ⟨g1, 0, none⟩) 2 cap1) rfl (by kernel_rfl) (by go_simp) ?_
                    simp only [Act.put, List.setIfInBounds_toArray, List.set_cons_zero, List.set_cons_succ]
                    refine wl_take (some 114) (.pointer (some ⟨g1, 0, none⟩)) rfl (by kernel_rfl) (by go_simp) ?_
                    simp only [Act.put, List.setIfInBounds_toArray, List.set_cons_zero, List.set_cons_succ]
                    refine wl_take (some 115) (.pointer (some ⟨g1, 3, none⟩)) rfl (by kernel_rfl) (by go_simp) ?_
                    simp only [Act.put, List.setIfInBounds_toArray, List.set_cons_zero, List.set_cons_succ]
                    refine wl_take (some 116) (.pointer (some ⟨g1, 4, none⟩)) rfl (by kernel_rfl) (by go_simp) ?_
                    simp only [Act.put, List.setIfInBounds_toArray, List.set_cons_zero, List.set_cons_succ]
                    refine wl_take (some 117) (.int .i64 ((n : Int) * 1000000)) rfl (by kernel_rfl) (by go_simp) ?_
                    simp only [Act.put, List.setIfInBounds_toArray, List.set_cons_zero, List.set_cons_succ]
                    refine wl_take (some 118) (.int .u32 n) rfl (by kernel_rfl) (by go_simp) ?_
                    simp only [Act.put, List.setIfInBounds_toArray, List.set_cons_zero, List.set_cons_succ]
                    refine wl_take (some 119) (.int .i64 n) rfl (by kernel_rfl) (by go_simp) ?_
                    simp only [Act.put, List.setIfInBounds_toArray, List.set_cons_zero, List.set_cons_succ]
                    refine wl_take (some 120) (.int .i64 ((n : Int) * 1000000)) rfl (by kernel_rfl) (by go_simp) ?_
                    simp only [Act.put, List.setIfInBounds_toArray, List.set_cons_zero, List.set_cons_succ]
                    refine wl_take (some 121) (.bool true) rfl (by kernel_rfl) (by go_simp) ?_
                    simp only [Act.put, List.setIfInBounds_toArray, List.set_cons_zero, List.set_cons_succ]
                    refine wl_take (some 122) (.bool true) rfl (by kernel_rfl) (by go_simp) ?_
                    simp only [Act.put, List.setIfInBounds_toArray, List.set_cons_zero, List.set_cons_succ]
                    refine wl_take (some 123) (.bool true) rfl (by kernel_rfl) (by go_simp) ?_
                    simp only [Act.put, List.setIfInBounds_toArray, List.set_cons_zero, List.set_cons_succ]
                    refine wl_take (some 124) (.int .i64 0) rfl (by kernel_rfl) (by go_simp) ?_
                    simp only [Act.put, List.setIfInBounds_toArray, List.set_cons_zero, List.set_cons_succ]
                    refine wl_take (some 125) (.bool true) rfl (by kernel_rfl) (by go_simp) ?_
                    simp only [Act.put, List.setIfInBounds_toArray, List.set_cons_zero, List.set_cons_succ]
                    refine wl_take (some 126) (.bool true) rfl (by kernel_rfl) (by go_simp) ?_
                    simp only [Act.put, List.setIfInBounds_toArray, List.set_cons_zero, List.set_cons_succ]
                    refine wl_take (some 127) (.bool true) rfl (by kernel_rfl) (by go_simp) ?_
                    simp only [Act.put, List.setIfInBounds_toArray, List.set_cons_zero, List.set_cons_succ]
                    refine wl_take (some 128) (.bool true) rfl (by kernel_rfl) (by go_simp) ?_
                    simp only [Act.put, List.setIfInBounds_toArray, List.set_cons_zero, List.set_cons_succ]
                    refine wl_take (some 129) (.bool true) rfl (by kernel_rfl) (by go_simp) ?_
                    simp only [Act.put, List.setIfInBounds_toArray, List.set_cons_zero, List.set_cons_succ]
                    refine wl_take (some 130) (.bool true) rfl (by kernel_rfl) (by go_simp) ?_
                    simp only [Act.put, List.setIfInBounds_toArray, List.set_cons_zero, List.set_cons_succ]
                    refine wl_take (some 131) (.bool false) rfl (by kernel_rfl) (by go_simp) ?_
                    simp only [Act.put, List.setIfInBounds_toArray, List.set_cons_zero, List.set_cons_succ]
                    refine wl_take (some 132) (.bool false) rfl (by kernel_rfl) (by go_simp) ?_
                    simp only [Act.put, List.setIfInBounds_toArray, List.set_cons_zero, List.set_cons_succ]
                    refine wl_take (some 133) (.slice (some ⟨g2, 0, none⟩) 2 cap2) rfl (by kernel_rfl) (by go_simp) ?_
                    simp only [Act.put, List.setIfInBounds_toArray, List.set_cons_zero, List.set_cons_succ]
                    refine wl_take (some 134) (.pointer (some ⟨g2, 0, none⟩)) rfl (by kernel_rfl) (by go_simp) ?_
                    simp only [Act.put, List.setIfInBounds_toArray, List.set_cons_zero, List.set_cons_succ]
                    refine wl_take (some 135) (.pointer (some ⟨g2, 5, none⟩)) rfl (by kernel_rfl) (by go_simp) ?_
                    simp only [Act.put, List.setIfInBounds_toArray, List.set_cons_zero, List.set_cons_succ]
                    refine wl_take (some 136) (.int .i64 (DD : Nat)) rfl (by kernel_rfl) (by go_simp) ?_
                    simp only [Act.put, List.setIfInBounds_toArray, List.set_cons_zero, List.set_cons_succ]
                    refine wl_take (some 137) (.int .u16 d) rfl (by kernel_rfl) (by go_simp) ?_
                    simp only [Act.put, List.setIfInBounds_toArray, List.set_cons_zero, List.set_cons_succ]
                    refine wl_take (some 138) (.int .u16 (DD : Nat)) rfl (by kernel_rfl) (by go_simp) ?_
                    simp only [Act.put, List.setIfInBounds_toArray, List.set_cons_zero, List.set_cons_succ]
                    refine wl_take (some 139) (.int .i64 (DD : Nat)) rfl (by kernel_rfl) (by go_simp) ?_
                    simp only [Act.put, List.setIfInBounds_toArray, List.set_cons_zero, List.set_cons_succ]
                    refine wl_take (some 140) (.bool true) rfl (by kernel_rfl) (by go_simp) ?_
                    simp only [Act.put, List.setIfInBounds_toArray, List.set_cons_zero, List.set_cons_succ]
                    refine wl_take (some 141) (.bool true) rfl (by kernel_rfl) (by go_simp) ?_
                    simp only [Act.put, List.setIfInBounds_toArray, List.set_cons_zero, List.set_cons_succ]
                    refine wl_take (some 142) (.bool true) rfl (by kernel_rfl) (by go_simp) ?_
                    simp only [Act.put, List.setIfInBounds_toArray, List.set_cons_zero, List.set_cons_succ]
                    refine wl_take (some 143) (.bool true) rfl (by kernel_rfl) (by go_simp) ?_
                    simp only [Act.put, List.setIfInBounds_toArray, List.set_cons_zero, List.set_cons_succ]
                    refine wl_take (some 144) (.int .i64 70) rfl (by kernel_rfl) (by go_simp) ?_
                    simp only [Act.put, List.setIfInBounds_toArray, List.set_cons_zero, List.set_cons_succ]
                    refine wl_take (some 145) (.bool false) rfl (by kernel_rfl) (by go_simp) ?_
                    simp only [Act.put, List.setIfInBounds_toArray, List.set_cons_zero, List.set_cons_succ]
                    refine wl_take (some 146) (.bool false) rfl (by kernel_rfl) (by go_simp) ?_
                    simp only [Act.put, List.setIfInBounds_toArray, List.set_cons_zero, List.set_cons_succ]
                    refine wl_take (some 147) (.bool true) rfl (by kernel_rfl) (by go_simp) ?_
                    simp only [Act.put, List.setIfInBounds_toArray, List.set_cons_zero, List.set_cons_succ]
                    refine wl_take (some 148) (.bool true) rfl (by kernel_rfl) (by go_simp) ?_
                    simp only [Act.put, List.setIfInBounds_toArray, List.set_cons_zero, List.set_cons_succ]
                    refine wl_take (some 149) (.bool true) rfl (by kernel_rfl) (by go_simp) ?_
                    simp only [Act.put, List.setIfInBounds_toArray, List.set_cons_zero, List.set_cons_succ]
                    refine wl_take (some 150) (.bool false) rfl (by kernel_rfl) (by go_simp) ?_
                    simp only [Act.put, List.setIfInBounds_toArray, List.set_cons_zero, List.set_cons_succ]
                    obtain ⟨Y, hY⟩ : ∃ Y, Hid (Y = true) := ⟨_, rfl⟩
                    refine wl_take (some 151) (.bool Y) rfl (by kernel_rfl) (by rw [hY.out]; go_simp) ?_
                    simp only [Act.put, List.setIfInBounds_toArray, List.set_cons_zero, List.set_cons_succ]
                    refine wl_take (some 152) (.bool Y) rfl (by kernel_rfl) (by go_simp) ?_
                    simp only [Act.put, List.setIfInBounds_toArray, List.set_cons_zero, List.set_cons_succ]
                    refine wl_skip (some 153) rfl (by rw [hY.out]; kernel_rfl) ?_
                    simp only [Act.put, List.setIfInBounds_toArray, List.set_cons_zero, List.set_cons_succ]
                    refine wl_skip (some 154) rfl (by rw [hY.out]; kernel_rfl) ?_
                    simp only [Act.put, List.setIfInBounds_toArray, List.set_cons_zero, List.set_cons_succ]
                    refine wl_skip (some 155) rfl (by rw [hY.out]; kernel_rfl) ?_
                    simp only [Act.put, List.setIfInBounds_toArray, List.set_cons_zero, List.set_cons_succ]
                    refine wl_skip (some 156) rfl (by rw [hY.out]; kernel_rfl) ?_
                    simp only [Act.put, List.setIfInBounds_toArray, List.set_cons_zero, List.set_cons_succ]
                    refine wl_skip (some 157) rfl (by rw [hY.out]; kernel_rfl) ?_
                    simp only [Act.put, List.setIfInBounds_toArray, List.set_cons_zero, List.set_cons_succ]
                    refine wl_skip (some 158) rfl (by rw [hY.out]; kernel_rfl) ?_
                    simp only [Act.put, List.setIfInBounds_toArray, List.set_cons_zero, List.set_cons_succ]
                    refine wl_skip (some 159) rfl (by rw [hY.out]; kernel_rfl) ?_
                    simp only [Act.put, List.setIfInBounds_toArray, List.set_cons_zero, List.set_cons_succ]
                    refine wl_skip (some 160) rfl (by rw [hY.out]; kernel_rfl) ?_
                    simp only [Act.put, List.setIfInBounds_toArray, List.set_cons_zero, List.set_cons_succ]
                    refine wl_skip (some 161) rfl (by rw [hY.out]; kernel_rfl) ?_
                    simp only [Act.put, List.setIfInBounds_toArray, List.set_cons_zero, List.set_cons_succ]
                    refine wl_skip (some 162) rfl (by rw [hY.out]; kernel_rfl) ?_
                    simp only [Act.put, List.setIfInBounds_toArray, List.set_cons_zero, List.set_cons_succ]
                    refine wl_skip (some 163) rfl (by rw [hY.out]; kernel_rfl) ?_
                    simp only [Act.put, List.setIfInBounds_toArray, List.set_cons_zero, List.set_cons_succ]
                    refine wl_skip (some 164) rfl (by rw [hY.out]; kernel_rfl) ?_
                    simp only [Act.put, List.setIfInBounds_toArray, List.set_cons_zero, List.set_cons_succ]
                    refine wl_skip (some 165) rfl (by rw [hY.out]; kernel_rfl) ?_
                    simp only [Act.put, List.setIfInBounds_toArray, List.set_cons_zero, List.set_cons_succ]
                    refine wl_take (some 166) (.bool true) rfl (by kernel_rfl) (by rw [hY.out]; go_simp) ?_
                    simp only [Act.put, List.setIfInBounds_toArray, List.set_cons_zero, List.set_cons_succ]
                    refine wl_take (some 167) (.bool true) rfl (by kernel_rfl) (by go_simp) ?_
                    simp only [Act.put, List.setIfInBounds_toArray, List.set_cons_zero, List.set_cons_succ]
                    refine wl_take (some 168) (.bool true) rfl (by kernel_rfl) (by go_simp) ?_
                    simp only [Act.put, List.setIfInBounds_toArray, List.set_cons_zero, List.set_cons_succ]
                    refine wl_take (some 169) (.int .i64 70) rfl (by kernel_rfl) (by go_simp) ?_
                    simp only [Act.put, List.setIfInBounds_toArray, List.set_cons_zero, List.set_cons_succ]
                    refine wl_take (some 170) (.bool false) rfl (by kernel_rfl) (by go_simp) ?_
                    simp only [Act.put, List.setIfInBounds_toArray, List.set_cons_zero, List.set_cons_succ]
                    refine wl_take (some 171) (.bool false) rfl (by kernel_rfl) (by go_simp) ?_
                    simp only [Act.put, List.setIfInBounds_toArray, List.set_cons_zero, List.set_cons_succ]
                    refine wl_take (some 172) (.bool true) rfl (by kernel_rfl) (by go_simp) ?_
                    simp only [Act.put, List.setIfInBounds_toArray, List.set_cons_zero, List.set_cons_succ]
                    refine wl_take (some 173) (.bool true) rfl (by kernel_rfl) (by go_simp) ?_
                    simp only [Act.put, List.setIfInBounds_toArray, List.set_cons_zero, List.set_cons_succ]
                    refine wl_take (some 174) (.bool true) rfl (by kernel_rfl) (by go_simp) ?_
                    simp only [Act.put, List.setIfInBounds_toArray, List.set_cons_zero, List.set_cons_succ]
                    refine wl_take (some 175) (.bool false) rfl (by kernel_rfl) (by go_simp) ?_
                    simp only [Act.put, List.setIfInBounds_toArray, List.set_cons_zero, List.set_cons_succ]
                    obtain ⟨Z, hZ⟩ : ∃ Z, Hid (Z = true) := ⟨_, rfl⟩
                    refine wl_take (some 176) (.bool Z) rfl (by kernel_rfl) (by rw [hZ.out]; go_simp) ?_
                    simp only [Act.put, List.setIfInBounds_toArray, List.set_cons_zero, List.set_cons_succ]
                    refine wl_take (some 177) (.bool Z) rfl (by kernel_rfl) (by go_simp) ?_
                    simp only [Act.put, List.setIfInBounds_toArray, List.set_cons_zero, List.set_cons_succ]
                    refine wl_skip (some 178) rfl (by rw [hZ.out]; kernel_rfl) ?_
                    simp only [Act.put, List.setIfInBounds_toArray, List.set_cons_zero, List.set_cons_succ]
                    refine wl_skip (some 179) rfl (by rw [hZ.out]; kernel_rfl) ?_
                    simp only [Act.put, List.setIfInBounds_toArray, List.set_cons_zero, List.set_cons_succ]
                    refine wl_skip (some 180) rfl (by rw [hZ.out]; kernel_rfl) ?_
                    simp only [Act.put, List.setIfInBounds_toArray, List.set_cons_zero, List.set_cons_succ]
                    refine wl_skip (some 181) rfl (by rw [hZ.out]; kernel_rfl) ?_
                    simp only [Act.put, List.setIfInBounds_toArray, List.set_cons_zero, List.set_cons_succ]
                    refine wl_skip (some 182) rfl (by rw [hZ.out]; kernel_rfl) ?_
                    simp only [Act.put, List.setIfInBounds_toArray, List.set_cons_zero, List.set_cons_succ]
                    refine wl_skip (some 183) rfl (by rw [hZ.out]; kernel_rfl) ?_
                    simp only [Act.put, List.setIfInBounds_toArray, List.set_cons_zero, List.set_cons_succ]
                    refine wl_take (some 184) (.bool true) rfl (by kernel_rfl) (by rw [hZ.out]; go_simp) ?_
                    simp only [Act.put, List.setIfInBounds_toArray, List.set_cons_zero, List.set_cons_succ]
                    refine wl_take (some 185) (.bool true) rfl (by kernel_rfl) (by go_simp) ?_
                    simp only [Act.put, List.setIfInBounds_toArray, List.set_cons_zero, List.set_cons_succ]
                    refine wl_take (some 8) (.bool true) rfl (by kernel_rfl) (by go_simp) ?_
                    simp only [Act.put, List.setIfInBounds_toArray, List.set_cons_zero, List.set_cons_succ]
                    refine wpList_nil ?_
                    go_wp2
                    go_ret
                    exact ⟨rfl, B8⟩
                · rw [D4] at ho2
                  obtain ⟨ao2, cap2, rfl, _, _, _⟩ := ho2.slice
                  rw [D3]
                  clear D3 D4 HDR ho2
                  by_cases p1 : 1 ≤ DD
                  · have p2 : ¬ (DD : Int) ≤ 100 := by omega
                    have pd : Hid (decide ((DD : Int) ≤ 100) = false) := decide_eq_false p2
                    have p3 : (1 : Int) ≤ DD := by omega
                    clear D1 p1
                    rcases HNM.out with ⟨N1, N3, N4⟩ | ⟨N1, N3, N4⟩
                    · rw [N4] at ho4
                      obtain ⟨g4, cap4, rfl, hc4, A4⟩ := two_cells ho4
                      obtain ⟨x40, x41, x42, x43, x44, x45⟩ := A4
                      have y42 : w8.cell? ⟨g4, 2, none⟩ = some (tx q) := x42
                      clear x40 x41 x42 x43 x44 x45 ho4
                      rw [N3]
                      have r1 : (j : Int) ≤ 20 := by omega
                      clear N3 N4 HNM
                      go_upto_region 16 with fail
                      rw [pd.out]
                      rw [hod.out]
                      refine wp_region_lit ?_
                      simp only [List.append_eq, List.cons_append, List.nil_append]
                      refine wl_take (some 110) (.int .i64 0) rfl (by kernel_rfl) (by go_simp) ?_
                      simp only [Act.put, List.setIfInBounds_toArray, List.set_cons_zero, List.set_cons_succ]
                      refine wl_take (some 111) (.bool true) rfl (by kernel_rfl) (by go_simp) ?_
                      simp only [Act.put, List.setIfInBounds_toArray, List.set_cons_zero, List.set_cons_succ]
                      refine wl_take (some 112) (.bool true) rfl (by kernel_rfl) (by go_simp) ?_
                      simp only [Act.put, List.setIfInBounds_toArray, List.set_cons_zero, List.set_cons_succ]
                      refine wl_take (some 113) (.slice (some ⟨g1, 0, none⟩) 2 cap1) rfl (by kernel_rfl) (by go_simp) ?_
                      simp only [Act.put, List.setIfInBounds_toArray, List.set_cons_zero, List.set_cons_succ]
                      refine wl_take (some 114) (.pointer (some ⟨g1, 0, none⟩)) rfl (by kernel_rfl) (by go_simp) ?_
                      simp only [Act.put, List.setIfInBounds_toArray, List.set_cons_zero, List.set_cons_succ]
                      refine wl_take (some 115) (.pointer (some ⟨g1, 3, none⟩)) rfl (by kernel_rfl) (by go_simp) ?_
                      simp only [Act.put, List.setIfInBounds_toArray, List.set_cons_zero, List.set_cons_succ]
                      refine wl_take (some 116) (.pointer (some ⟨g1, 4, none⟩)) rfl (by kernel_rfl) (by go_simp) ?_
                      simp only [Act.put, List.setIfInBounds_toArray, List.set_cons_zero, List.set_cons_succ]
                      refine wl_take (some 117) (.int .i64 ((n : Int) * 1000000)) rfl (by kernel_rfl) (by go_simp) ?_
                      simp only [Act.put, List.setIfInBounds_toArray, List.set_cons_zero, List.set_cons_succ]
                      refine wl_take (some 118) (.int .u32 n) rfl (by kernel_rfl) (by go_simp) ?_
                      simp only [Act.put, List.setIfInBounds_toArray, List.set_cons_zero, List.set_cons_succ]
                      refine wl_take (some 119) (.int .i64 n) rfl (by kernel_rfl) (by go_simp) ?_
                      simp only [Act.put, List.setIfInBounds_toArray, List.set_cons_zero, List.set_cons_succ]
                      refine wl_take (some 120) (.int .i64 ((n : Int) * 1000000)) rfl (by kernel_rfl) (by go_simp) ?_
                      simp only [Act.put, List.setIfInBounds_toArray, List.set_cons_zero, List.set_cons_succ]
                      refine wl_take (some 121) (.bool true) rfl (by kernel_rfl) (by go_simp) ?_
                      simp only [Act.put, List.setIfInBounds_toArray, List.set_cons_zero, List.set_cons_succ]
                      refine wl_take (some 122) (.bool true) rfl (by kernel_rfl) (by go_simp) ?_
                      simp only [Act.put, List.setIfInBounds_toArray, List.set_cons_zero, List.set_cons_succ]
                      refine wl_take (some 123) (.bool true) rfl (by kernel_rfl) (by go_simp) ?_
                      simp only [Act.put, List.setIfInBounds_toArray, List.set_cons_zero, List.set_cons_succ]
                      refine wl_take (some 124) (.int .i64 70) rfl (by kernel_rfl) (by go_simp) ?_
                      simp only [Act.put, List.setIfInBounds_toArray, List.set_cons_zero, List.set_cons_succ]
                      refine wl_take (some 125) (.bool false) rfl (by kernel_rfl) (by go_simp) ?_
                      simp only [Act.put, List.setIfInBounds_toArray, List.set_cons_zero, List.set_cons_succ]
                      refine wl_take (some 126) (.bool false) rfl (by kernel_rfl) (by go_simp) ?_
                      simp only [Act.put, List.setIfInBounds_toArray, List.set_cons_zero, List.set_cons_succ]
                      refine wl_take (some 127) (.bool true) rfl (by kernel_rfl) (by go_simp) ?_
                      simp only [Act.put, List.setIfInBounds_toArray, List.set_cons_zero, List.set_cons_succ]
                      refine wl_take (some 128) (.bool true) rfl (by kernel_rfl) (by go_simp) ?_
                      simp only [Act.put, List.setIfInBounds_toArray, List.set_cons_zero, List.set_cons_succ]
                      refine wl_take (some 129) (.bool true) rfl (by kernel_rfl) (by go_simp) ?_
                      simp only [Act.put, List.setIfInBounds_toArray, List.set_cons_zero, List.set_cons_succ]
                      refine wl_take (some 130) (.bool false) rfl (by kernel_rfl) (by go_simp) ?_
                      simp only [Act.put, List.setIfInBounds_toArray, List.set_cons_zero, List.set_cons_succ]
                      obtain ⟨X, hX⟩ : ∃ X, Hid (X = true) := ⟨_, rfl⟩
                      refine wl_take (some 131) (.bool X) rfl (by kernel_rfl) (by rw [hX.out]; go_simp) ?_
                      simp only [Act.put, List.setIfInBounds_toArray, List.set_cons_zero, List.set_cons_succ]
                      refine wl_take (some 132) (.bool X) rfl (by kernel_rfl) (by go_simp) ?_
                      simp only [Act.put, List.setIfInBounds_toArray, List.set_cons_zero, List.set_cons_succ]
                      refine wl_skip (some 133) rfl (by rw [hX.out]; kernel_rfl) ?_
                      simp only [Act.put, List.setIfInBounds_toArray, List.set_cons_zero, List.set_cons_succ]
                      refine wl_skip (some 134) rfl (by rw [hX.out]; kernel_rfl) ?_
                      simp only [Act.put, List.setIfInBounds_toArray, List.set_cons_zero, List.set_cons_succ]
                      refine wl_skip (some 135) rfl (by rw [hX.out]; kernel_rfl) ?_
                      simp only [Act.put, List.setIfInBounds_toArray, List.set_cons_zero, List.set_cons_succ]
                      refine wl_skip (some 136) rfl (by rw [hX.out]; kernel_rfl) ?_
                      simp only [Act.put, List.setIfInBounds_toArray, List.set_cons_zero, List.set_cons_succ]
                      refine wl_skip (some 137) rfl (by rw [hX.out]; kernel_rfl) ?_
                      simp only [Act.put, List.setIfInBounds_toArray, List.set_cons_zero, List.set_cons_succ]
                      refine wl_skip (some 138) rfl (by rw [hX.out]; kernel_rfl) ?_
                      simp only [Act.put, List.setIfInBounds_toArray, List.set_cons_zero, List.set_cons_succ]
                      refine wl_skip (some 139) rfl (by rw [hX.out]; kernel_rfl) ?_
                      simp only [Act.put, List.setIfInBounds_toArray, List.set_cons_zero, List.set_cons_succ]
                      refine wl_skip (some 140) rfl (by rw [hX.out]; kernel_rfl) ?_
                      simp only [Act.put, List.setIfInBounds_toArray, List.set_cons_zero, List.set_cons_succ]
                      refine wl_take (some 141) (.bool true) rfl (by kernel_rfl) (by rw [hX.out]; go_simp) ?_
                      simp only [Act.put, List.setIfInBounds_toArray, List.set_cons_zero, List.set_cons_succ]
                      refine wl_take (some 142) (.bool true) rfl (by kernel_rfl) (by go_simp) ?_
                      simp only [Act.put, List.setIfInBounds_toArray, List.set_cons_zero, List.set_cons_succ]
                      refine wl_take (some 143) (.bool true) rfl (by kernel_rfl) (by go_simp) ?_
                      simp only [Act.put, List.setIfInBounds_toArray, List.set_cons_zero, List.set_cons_succ]
                      refine wl_take (some 144) (.int .i64 70) rfl (by kernel_rfl) (by go_simp) ?_
                      simp only [Act.put, List.setIfInBounds_toArray, List.set_cons_zero, List.set_cons_succ]
                      refine wl_take (some 145) (.bool false) rfl (by kernel_rfl) (by go_simp) ?_
                      simp only [Act.put, List.setIfInBounds_toArray, List.set_cons_zero, List.set_cons_succ]
                      refine wl_take (some 146) (.bool false) rfl (by kernel_rfl) (by go_simp) ?_
                      simp only [Act.put, List.setIfInBounds_toArray, List.set_cons_zero, List.set_cons_succ]
                      refine wl_take (some 147) (.bool true) rfl (by kernel_rfl) (by go_simp) ?_
                      simp only [Act.put, List.setIfInBounds_toArray, List.set_cons_zero, List.set_cons_succ]
                      refine wl_take (some 148) (.bool true) rfl (by kernel_rfl) (by go_simp) ?_
                      simp only [Act.put, List.setIfInBounds_toArray, List.set_cons_zero, List.set_cons_succ]
                      refine wl_take (some 149) (.bool true) rfl (by kernel_rfl) (by go_simp) ?_
                      simp only [Act.put, List.setIfInBounds_toArray, List.set_cons_zero, List.set_cons_succ]
                      refine wl_take (some 150) (.bool false) rfl (by kernel_rfl) (by go_simp) ?_
                      simp only [Act.put, List.setIfInBounds_toArray, List.set_cons_zero, List.set_cons_succ]
                      obtain ⟨Y, hY⟩ : ∃ Y, Hid (Y = true) := ⟨_, rfl⟩
                      refine wl_take (some 151) (.bool Y) rfl (by kernel_rfl) (by rw [hY.out]; go_simp) ?_
                      simp only [Act.put, List.setIfInBounds_toArray, List.set_cons_zero, List.set_cons_succ]
                      refine wl_take (some 152) (.bool Y) rfl (by kernel_rfl) (by go_simp) ?_
                      simp only [Act.put, List.setIfInBounds_toArray, List.set_cons_zero, List.set_cons_succ]
                      refine wl_skip (some 153) rfl (by rw [hY.out]; kernel_rfl) ?_
                      simp only [Act.put, List.setIfInBounds_toArray, List.set_cons_zero, List.set_cons_succ]
                      refine wl_skip (some 154) rfl (by rw [hY.out]; kernel_rfl) ?_
                      simp only [Act.put, List.setIfInBounds_toArray, List.set_cons_zero, List.set_cons_succ]
                      refine wl_skip (some 155) rfl (by rw [hY.out]; kernel_rfl) ?_
                      simp only [Act.put, List.setIfInBounds_toArray, List.set_cons_zero, List.set_cons_succ]
                      refine wl_skip (some 156) rfl (by rw [hY.out]; kernel_rfl) ?_
                      simp only [Act.put, List.setIfInBounds_toArray, List.set_cons_zero, List.set_cons_succ]
                      refine wl_skip (some 157) rfl (by rw [hY.out]; kernel_rfl) ?_
                      simp only [Act.put, List.setIfInBounds_toArray, List.set_cons_zero, List.set_cons_succ]
                      refine wl_skip (some 158) rfl (by rw [hY.out]; kernel_rfl) ?_
                      simp only [Act.put, List.setIfInBounds_toArray, List.set_cons_zero, List.set_cons_succ]
                      refine wl_skip (some 159) rfl (by rw [hY.out]; kernel_rfl) ?_
                      simp only [Act.put, List.setIfInBounds_toArray, List.set_cons_zero, List.set_cons_succ]
                      refine wl_skip (some 160) rfl (by rw [hY.out]; kernel_rfl) ?_
                      simp only [Act.put, List.setIfInBounds_toArray, List.set_cons_zero, List.set_cons_succ]
                      refine wl_skip (some 161) rfl (by rw [hY.out]; kernel_rfl) ?_
                      simp only [Act.put, List.setIfInBounds_toArray, List.set_cons_zero, List.set_cons_succ]
                      refine wl_skip (some 162) rfl (by rw [hY.out]; kernel_rfl) ?_
                      simp only [Act.put, List.setIfInBounds_toArray, List.set_cons_zero, List.set_cons_succ]
                      refine wl_skip (some 163) rfl (by rw [hY.out]; kernel_rfl) ?_
                      simp only [Act.put, List.setIfInBounds_toArray, List.set_cons_zero, List.set_cons_succ]
                      refine wl_skip (some 164) rfl (by rw [hY.out]; kernel_rfl) ?_
                      simp only [Act.put, List.setIfInBounds_toArray, List.set_cons_zero, List.set_cons_succ]
                      refine wl_skip (some 165) rfl (by rw [hY.out]; kernel_rfl) ?_
                      simp only [Act.put, List.setIfInBounds_toArray, List.set_cons_zero, List.set_cons_succ]
                      refine wl_take (some 166) (.bool true) rfl (by kernel_rfl) (by rw [hY.out]; go_simp) ?_
                      simp only [Act.put, List.setIfInBounds_toArray, List.set_cons_zero, List.set_cons_succ]
                      refine wl_take (some 167) (.bool true) rfl (by kernel_rfl) (by go_simp) ?_
                      simp only [Act.put, List.setIfInBounds_toArray, List.set_cons_zero, List.set_cons_succ]
                      refine wl_take (some 168) (.bool true) rfl (by kernel_rfl) (by go_simp) ?_
                      simp only [Act.put, List.setIfInBounds_toArray, List.set_cons_zero, List.set_cons_succ]
                      refine wl_take (some 169) (.int .i64 0) rfl (by kernel_rfl) (by go_simp) ?_
                      simp only [Act.put, List.setIfInBounds_toArray, List.set_cons_zero, List.set_cons_succ]
                      refine wl_take (some 170) (.bool true) rfl (by kernel_rfl) (by go_simp) ?_
                      simp only [Act.put, List.setIfInBounds_toArray, List.set_cons_zero, List.set_cons_succ]
                      refine wl_take (some 171) (.bool true) rfl (by kernel_rfl) (by go_simp) ?_
                      simp only [Act.put, List.setIfInBounds_toArray, List.set_cons_zero, List.set_cons_succ]
                      refine wl_take (some 172) (.bool true) rfl (by kernel_rfl) (by go_simp) ?_
                      simp only [Act.put, List.setIfInBounds_toArray, List.set_cons_zero, List.set_cons_succ]
                      refine wl_take (some 173) (.bool true) rfl (by kernel_rfl) (by go_simp) ?_
                      simp only [Act.put, List.setIfInBounds_toArray, List.set_cons_zero, List.set_cons_succ]
                      refine wl_take (some 174) (.bool true) rfl (by kernel_rfl) (by go_simp) ?_
                      simp only [Act.put, List.setIfInBounds_toArray, List.set_cons_zero, List.set_cons_succ]
                      refine wl_take (some 175) (.bool true) rfl (by kernel_rfl) (by go_simp) ?_
                      simp only [Act.put, List.setIfInBounds_toArray, List.set_cons_zero, List.set_cons_succ]
                      refine wl_take (some 176) (.bool false) rfl (by kernel_rfl) (by go_simp) ?_
                      simp only [Act.put, List.setIfInBounds_toArray, List.set_cons_zero, List.set_cons_succ]
                      refine wl_take (some 177) (.bool false) rfl (by kernel_rfl) (by go_simp) ?_
                      simp only [Act.put, List.setIfInBounds_toArray, List.set_cons_zero, List.set_cons_succ]
                      refine wl_take (some 178) (.slice (some ⟨g4, 0, none⟩) 2 cap4) rfl (by kernel_rfl) (by go_simp) ?_
                      simp only [Act.put, List.setIfInBounds_toArray, List.set_cons_zero, List.set_cons_succ]
                      refine wl_take (some 179) (.pointer (some ⟨g4, 0, none⟩)) rfl (by kernel_rfl) (by go_simp) ?_
                      simp only [Act.put, List.setIfInBounds_toArray, List.set_cons_zero, List.set_cons_succ]
                      refine wl_take (some 180) (.pointer (some ⟨g4, 2, none⟩)) rfl (by kernel_rfl) (by go_simp) ?_
                      simp only [Act.put, List.setIfInBounds_toArray, List.set_cons_zero, List.set_cons_succ]
                      refine wl_take (some 181) (tx q) rfl (by kernel_rfl) (by go_simp) ?_
                      simp only [Act.put, List.setIfInBounds_toArray, List.set_cons_zero, List.set_cons_succ]
                      refine wl_take (some 182) (tx q) rfl (by kernel_rfl) (by go_simp) ?_
                      simp only [Act.put, List.setIfInBounds_toArray, List.set_cons_zero, List.set_cons_succ]
                      refine wl_take (some 183) (.bool true) rfl (by kernel_rfl) (by go_simp) ?_
                      simp only [Act.put, List.setIfInBounds_toArray, List.set_cons_zero, List.set_cons_succ]
                      refine wl_take (some 184) (.bool true) rfl (by kernel_rfl) (by go_simp) ?_
                      simp only [Act.put, List.setIfInBounds_toArray, List.set_cons_zero, List.set_cons_succ]
                      refine wl_take (some 185) (.bool true) rfl (by kernel_rfl) (by go_simp) ?_
                      simp only [Act.put, List.setIfInBounds_toArray, List.set_cons_zero, List.set_cons_succ]
                      refine wl_take (some 8) (.bool true) rfl (by kernel_rfl) (by go_simp) ?_
                      simp only [Act.put, List.setIfInBounds_toArray, List.set_cons_zero, List.set_cons_succ]
                      refine wpList_nil ?_
                      go_wp2
                      go_ret
                      exact ⟨rfl, B8⟩
                    · rw [N4] at ho4
                      obtain ⟨ao4, cap4, rfl, _, _, _⟩ := ho4.slice
                      rw [N3]
                      have r1 : ¬ (j : Int) ≤ 20 := by omega
                      have rd : Hid (decide ((j : Int) ≤ 20) = false) := decide_eq_false r1
                      clear N3 N4 HNM ho4
                      go_upto_region 16 with fail
                      rw [rd.out]
                      rw [pd.out]
                      rw [hod.out]
                      refine wp_region_lit ?_
                      simp only [List.append_eq, List.cons_append, List.nil_append]
                      refine wl_take (some 110) (.int .i64 0) rfl (by kernel_rfl) (by go_simp) ?_
                      simp only [Act.put, List.setIfInBounds_toArray, List.set_cons_zero, List.set_cons_succ]
                      refine wl_take (some 111) (.bool true) rfl (by kernel_rfl) (by go_simp) ?_
                      simp only [Act.put, List.setIfInBounds_toArray, List.set_cons_zero, List.set_cons_succ]
                      refine wl_take (some 112) (.bool true) rfl (by kernel_rfl) (by go_simp) ?_
                      simp only [Act.put, List.setIfInBounds_toArray, List.set_cons_zero, List.set_cons_succ]
                      refine wl_take (some 113) (.slice (some ⟨g1, 0, none⟩) 2 cap1) rfl (by kernel_rfl) (by go_simp) ?_
                      simp only [Act.put, List.setIfInBounds_toArray, List.set_cons_zero, List.set_cons_succ]
                      refine wl_take (some 114) (.pointer (some ⟨g1, 0, none⟩)) rfl (by kernel_rfl) (by go_simp) ?_
                      simp only [Act.put, List.setIfInBounds_toArray, List.set_cons_zero, List.set_cons_succ]
                      refine wl_take (some 115) (.pointer (some ⟨g1, 3, none⟩)) rfl (by kernel_rfl) (by go_simp) ?_
                      simp only [Act.put, List.setIfInBounds_toArray, List.set_cons_zero, List.set_cons_succ]
                      refine wl_take (some 116) (.pointer (some ⟨g1, 4, none⟩)) rfl (by kernel_rfl) (by go_simp) ?_
                      simp only [Act.put, List.setIfInBounds_toArray, List.set_cons_zero, List.set_cons_succ]
                      refine wl_take (some 117) (.int .i64 ((n : Int) * 1000000)) rfl (by kernel_rfl) (by go_simp) ?_
                      simp only [Act.put, List.setIfInBounds_toArray, List.set_cons_zero, List.set_cons_succ]
                      refine wl_take (some 118) (.int .u32 n) rfl (by kernel_rfl) (by go_simp) ?_
                      simp only [Act.put, List.setIfInBounds_toArray, List.set_cons_zero, List.set_cons_succ]
                      refine wl_take (some 119) (.int .i64 n) rfl (by kernel_rfl) (by go_simp) ?_
                      simp only [Act.put, List.setIfInBounds_toArray, List.set_cons_zero, List.set_cons_succ]
                      refine wl_take (some 120) (.int .i64 ((n : Int) * 1000000)) rfl (by kernel_rfl) (by go_simp) ?_
                      simp only [Act.put, List.setIfInBounds_toArray, List.set_cons_zero, List.set_cons_succ]
                      refine wl_take (some 121) (.bool true) rfl (by kernel_rfl) (by go_simp) ?_
                      simp only [Act.put, List.setIfInBounds_toArray, List.set_cons_zero, List.set_cons_succ]
                      refine wl_take (some 122) (.bool true) rfl (by kernel_rfl) (by go_simp) ?_
                      simp only [Act.put, List.setIfInBounds_toArray, List.set_cons_zero, List.set_cons_succ]
                      refine wl_take (some 123) (.bool true) rfl (by kernel_rfl) (by go_simp) ?_
                      simp only [Act.put, List.setIfInBounds_toArray, List.set_cons_zero, List.set_cons_succ]
                      refine wl_take (some 124) (.int .i64 70) rfl (by kernel_rfl) (by go_simp) ?_
                      simp only [Act.put, List.setIfInBounds_toArray, List.set_cons_zero, List.set_cons_succ]
                      refine wl_take (some 125) (.bool false) rfl (by kernel_rfl) (by go_simp) ?_
                      simp only [Act.put, List.setIfInBounds_toArray, List.set_cons_zero, List.set_cons_succ]
                      refine wl_take (some 126) (.bool false) rfl (by kernel_rfl) (by go_simp) ?_
                      simp only [Act.put, List.setIfInBounds_toArray, List.set_cons_zero, List.set_cons_succ]
                      refine wl_take (some 127) (.bool true) rfl (by kernel_rfl) (by go_simp) ?_
                      simp only [Act.put, List.setIfInBounds_toArray, List.set_cons_zero, List.set_cons_succ]
                      refine wl_take (some 128) (.bool true) rfl (by kernel_rfl) (by go_simp) ?_
                      simp only [Act.put, List.setIfInBounds_toArray, List.set_cons_zero, List.set_cons_succ]
                      refine wl_take (some 129) (.bool true) rfl (by kernel_rfl) (by go_simp) ?_
                      simp only [Act.put, List.setIfInBounds_toArray, List.set_cons_zero, List.set_cons_succ]
                      refine wl_take (some 130) (.bool false) rfl (by kernel_rfl) (by go_simp) ?_
                      simp only [Act.put, List.setIfInBounds_toArray, List.set_cons_zero, List.set_cons_succ]
                      obtain ⟨X, hX⟩ : ∃ X, Hid (X = true) := ⟨_, rfl⟩
                      refine wl_take (some 131) (.bool X) rfl (by kernel_rfl) (by rw [hX.out]; go_simp) ?_
                      simp only [Act.put, List.setIfInBounds_toArray, List.set_cons_zero, List.set_cons_succ]
                      refine wl_take (some 132) (.bool X) rfl (by kernel_rfl) (by go_simp) ?_
                      simp only [Act.put, List.setIfInBounds_toArray, List.set_cons_zero, List.set_cons_succ]
                      refine wl_skip (some 133) rfl (by rw [hX.out]; kernel_rfl) ?_
                      simp only [Act.put, List.setIfInBounds_toArray, List.set_cons_zero, List.set_cons_succ]
                      refine wl_skip (some 134) rfl (by rw [hX.out]; kernel_rfl) ?_
                      simp only [Act.put, List.setIfInBounds_toArray, List.set_cons_zero, List.set_cons_succ]
                      refine wl_skip (some 135) rfl (by rw [hX.out]; kernel_rfl) ?_
                      simp only [Act.put, List.setIfInBounds_toArray, List.set_cons_zero, List.set_cons_succ]
                      refine wl_skip (some 136) rfl (by rw [hX.out]; kernel_rfl) ?_
                      simp only [Act.put, List.setIfInBounds_toArray, List.set_cons_zero, List.set_cons_succ]
                      refine wl_skip (some 137) rfl (by rw [hX.out]; kernel_rfl) ?_
                      simp only [Act.put, List.setIfInBounds_toArray, List.set_cons_zero, List.set_cons_succ]
                      refine wl_skip (some 138) rfl (by rw [hX.out]; kernel_rfl) ?_
                      simp only [Act.put, List.setIfInBounds_toArray, List.set_cons_zero, List.set_cons_succ]
                      refine wl_skip (some 139) rfl (by rw [hX.out]; kernel_rfl) ?_
                      simp only [Act.put, List.setIfInBounds_toArray, List.set_cons_zero, List.set_cons_succ]
                      refine wl_skip (some 140) rfl (by rw [hX.out]; kernel_rfl) ?_
                      simp only [Act.put, List.setIfInBounds_toArray, List.set_cons_zero, List.set_cons_succ]
                      refine wl_take (some 141) (.bool true) rfl (by kernel_rfl) (by rw [hX.out]; go_simp) ?_
                      simp only [Act.put, List.setIfInBounds_toArray, List.set_cons_zero, List.set_cons_succ]
                      refine wl_take (some 142) (.bool true) rfl (by kernel_rfl) (by go_simp) ?_
                      simp only [Act.put, List.setIfInBounds_toArray, List.set_cons_zero, List.set_cons_succ]
                      refine wl_take (some 143) (.bool true) rfl (by kernel_rfl) (by go_simp) ?_
                      simp only [Act.put, List.setIfInBounds_toArray, List.set_cons_zero, List.set_cons_succ]
                      refine wl_take (some 144) (.int .i64 70) rfl (by kernel_rfl) (by go_simp) ?_
                      simp only [Act.put, List.setIfInBounds_toArray, List.set_cons_zero, List.set_cons_succ]
                      refine wl_take (some 145) (.bool false) rfl (by kernel_rfl) (by go_simp) ?_
                      simp only [Act.put, List.setIfInBounds_toArray, List.set_cons_zero, List.set_cons_succ]
                      refine wl_take (some 146) (.bool false) rfl (by kernel_rfl) (by go_simp) ?_
                      simp only [Act.put, List.setIfInBounds_toArray, List.set_cons_zero, List.set_cons_succ]
                      refine wl_take (some 147) (.bool true) rfl (by kernel_rfl) (by go_simp) ?_
                      simp only [Act.put, List.setIfInBounds_toArray, List.set_cons_zero, List.set_cons_succ]
                      refine wl_take (some 148) (.bool true) rfl (by kernel_rfl) (by go_simp) ?_
                      simp only [Act.put, List.setIfInBounds_toArray, List.set_cons_zero, List.set_cons_succ]
                      refine wl_take (some 149) (.bool true) rfl (by kernel_rfl) (by go_simp) ?_
                      simp only [Act.put, List.setIfInBounds_toArray, List.set_cons_zero, List.set_cons_succ]
                      refine wl_take (some 150) (.bool false) rfl (by kernel_rfl) (by go_simp) ?_
                      simp only [Act.put, List.setIfInBounds_toArray, List.set_cons_zero, List.set_cons_succ]
                      obtain ⟨Y, hY⟩ : ∃ Y, Hid (Y = true) := ⟨_, rfl⟩
                      refine wl_take (some 151) (.bool Y) rfl (by kernel_rfl) (by rw [hY.out]; go_simp) ?_
                      simp only [Act.put, List.setIfInBounds_toArray, List.set_cons_zero, List.set_cons_succ]
                      refine wl_take (some 152) (.bool Y) rfl (by kernel_rfl) (by go_simp) ?_
                      simp only [Act.put, List.setIfInBounds_toArray, List.set_cons_zero, List.set_cons_succ]
                      refine wl_skip (some 153) rfl (by rw [hY.out]; kernel_rfl) ?_
                      simp only [Act.put, List.setIfInBounds_toArray, List.set_cons_zero, List.set_cons_succ]
                      refine wl_skip (some 154) rfl (by rw [hY.out]; kernel_rfl) ?_
                      simp only [Act.put, List.setIfInBounds_toArray, List.set_cons_zero, List.set_cons_succ]
                      refine wl_skip (some 155) rfl (by rw [hY.out]; kernel_rfl) ?_
                      simp only [Act.put, List.setIfInBounds_toArray, List.set_cons_zero, List.set_cons_succ]
                      refine wl_skip (some 156) rfl (by rw [hY.out]; kernel_rfl) ?_
                      simp only [Act.put, List.setIfInBounds_toArray, List.set_cons_zero, List.set_cons_succ]
                      refine wl_skip (some 157) rfl (by rw [hY.out]; kernel_rfl) ?_
                      simp only [Act.put, List.setIfInBounds_toArray, List.set_cons_zero, List.set_cons_succ]
                      refine wl_skip (some 158) rfl (by rw [hY.out]; kernel_rfl) ?_
                      simp only [Act.put, List.setIfInBounds_toArray, List.set_cons_zero, List.set_cons_succ]
                      refine wl_skip (some 159) rfl (by rw [hY.out]; kernel_rfl) ?_
                      simp only [Act.put, List.setIfInBounds_toArray, List.set_cons_zero, List.set_cons_succ]
                      refine wl_skip (some 160) rfl (by rw [hY.out]; kernel_rfl) ?_
                      simp only [Act.put, List.setIfInBounds_toArray, List.set_cons_zero, List.set_cons_succ]
                      refine wl_skip (some 161) rfl (by rw [hY.out]; kernel_rfl) ?_
                      simp only [Act.put, List.setIfInBounds_toArray, List.set_cons_zero, List.set_cons_succ]
                      refine wl_skip (some 162) rfl (by rw [hY.out]; kernel_rfl) ?_
                      simp only [Act.put, List.setIfInBounds_toArray, List.set_cons_zero, List.set_cons_succ]
                      refine wl_skip (some 163) rfl (by rw [hY.out]; kernel_rfl) ?_
                      simp only [Act.put, List.setIfInBounds_toArray, List.set_cons_zero, List.set_cons_succ]
                      refine wl_skip (some 164) rfl (by rw [hY.out]; kernel_rfl) ?_
                      simp only [Act.put, List.setIfInBounds_toArray, List.set_cons_zero, List.set_cons_succ]
                      refine wl_skip (some 165) rfl (by rw [hY.out]; kernel_rfl) ?_
                      simp only [Act.put, List.setIfInBounds_toArray, List.set_cons_zero, List.set_cons_succ]
                      refine wl_take (some 166) (.bool true) rfl (by kernel_rfl) (by rw [hY.out]; go_simp) ?_
                      simp only [Act.put, List.setIfInBounds_toArray, List.set_cons_zero, List.set_cons_succ]
                      refine wl_take (some 167) (.bool true) rfl (by kernel_rfl) (by go_simp) ?_
                      simp only [Act.put, List.setIfInBounds_toArray, List.set_cons_zero, List.set_cons_succ]
                      refine wl_take (some 168) (.bool true) rfl (by kernel_rfl) (by go_simp) ?_
                      simp only [Act.put, List.setIfInBounds_toArray, List.set_cons_zero, List.set_cons_succ]
                      refine wl_take (some 169) (.int .i64 70) rfl (by kernel_rfl) (by go_simp) ?_
                      simp only [Act.put, List.setIfInBounds_toArray, List.set_cons_zero, List.set_cons_succ]
                      refine wl_take (some 170) (.bool false) rfl (by kernel_rfl) (by go_simp) ?_
                      simp only [Act.put, List.setIfInBounds_toArray, List.set_cons_zero, List.set_cons_succ]
                      refine wl_take (some 171) (.bool false) rfl (by kernel_rfl) (by go_simp) ?_
                      simp only [Act.put, List.setIfInBounds_toArray, List.set_cons_zero, List.set_cons_succ]
                      refine wl_take (some 172) (.bool true) rfl (by kernel_rfl) (by go_simp) ?_
                      simp only [Act.put, List.setIfInBounds_toArray, List.set_cons_zero, List.set_cons_succ]
                      refine wl_take (some 173) (.bool true) rfl (by kernel_rfl) (by go_simp) ?_
                      simp only [Act.put, List.setIfInBounds_toArray, List.set_cons_zero, List.set_cons_succ]
                      refine wl_take (some 174) (.bool true) rfl (by kernel_rfl) (by go_simp) ?_
                      simp only [Act.put, List.setIfInBounds_toArray, List.set_cons_zero, List.set_cons_succ]
                      refine wl_take (some 175) (.bool false) rfl (by kernel_rfl) (by go_simp) ?_
                      simp only [Act.put, List.setIfInBounds_toArray, List.set_cons_zero, List.set_cons_succ]
                      obtain ⟨Z, hZ⟩ : ∃ Z, Hid (Z = true) := ⟨_, rfl⟩
                      refine wl_take (some 176) (.bool Z) rfl (by kernel_rfl) (by rw [hZ.out]; go_simp) ?_
                      simp only [Act.put, List.setIfInBounds_toArray, List.set_cons_zero, List.set_cons_succ]
                      refine wl_take (some 177) (.bool Z) rfl (by kernel_rfl) (by go_simp) ?_
                      simp only [Act.put, List.setIfInBounds_toArray, List.set_cons_zero, List.set_cons_succ]
                      refine wl_skip (some 178) rfl (by rw [hZ.out]; kernel_rfl) ?_
                      simp only [Act.put, List.setIfInBounds_toArray, List.set_cons_zero, List.set_cons_succ]
                      refine wl_skip (some 179) rfl (by rw [hZ.out]; kernel_rfl) ?_
                      simp only [Act.put, List.setIfInBounds_toArray, List.set_cons_zero, List.set_cons_succ]
                      refine wl_skip (some 180) rfl (by rw [hZ.out]; kernel_rfl) ?_
                      simp only [Act.put, List.setIfInBounds_toArray, List.set_cons_zero, List.set_cons_succ]
                      refine wl_skip (some 181) rfl (by rw [hZ.out]; kernel_rfl) ?_
                      simp only [Act.put, List.setIfInBounds_toArray, List.set_cons_zero, List.set_cons_succ]
                      refine wl_skip (some 182) rfl (by rw [hZ.out]; kernel_rfl) ?_
                      simp only [Act.put, List.setIfInBounds_toArray, List.set_cons_zero, List.set_cons_succ]
                      refine wl_skip (some 183) rfl (by rw [hZ.out]; kernel_rfl) ?_
                      simp only [Act.put, List.setIfInBounds_toArray, List.set_cons_zero, List.set_cons_succ]
                      refine wl_take (some 184) (.bool true) rfl (by kernel_rfl) (by rw [hZ.out]; go_simp) ?_
                      simp only [Act.put, List.setIfInBounds_toArray, List.set_cons_zero, List.set_cons_succ]
                      refine wl_take (some 185) (.bool true) rfl (by kernel_rfl) (by go_simp) ?_
                      simp only [Act.put, List.setIfInBounds_toArray, List.set_cons_zero, List.set_cons_succ]
                      refine wl_take (some 8) (.bool true) rfl (by kernel_rfl) (by go_simp) ?_
                      simp only [Act.put, List.setIfInBounds_toArray, List.set_cons_zero, List.set_cons_succ]
                      refine wpList_nil ?_
                      go_wp2
                      go_ret
                      exact ⟨rfl, B8⟩
                  · obtain rfl : DD = 0 := by omega
                    clear D1 p1
                    rcases HNM.out with ⟨N1, N3, N4⟩ | ⟨N1, N3, N4⟩
                    · rw [N4] at ho4
                      obtain ⟨g4, cap4, rfl, hc4, A4⟩ := two_cells ho4
                      obtain ⟨x40, x41, x42, x43, x44, x45⟩ := A4
                      have y42 : w8.cell? ⟨g4, 2, none⟩ = some (tx q) := x42
                      clear x40 x41 x42 x43 x44 x45 ho4
                      rw [N3]
                      have r1 : (j : Int) ≤ 20 := by omega
                      clear N3 N4 HNM
                      go_upto_region 16 with fail
                      rw [hod.out]
                      refine wp_region_lit ?_
                      simp only [List.append_eq, List.cons_append, List.nil_append]
                      refine wl_take (some 110) (.int .i64 0) rfl (by kernel_rfl) (by go_simp) ?_
                      simp only [Act.put, List.setIfInBounds_toArray, List.set_cons_zero, List.set_cons_succ]
                      refine wl_take (some 111) (.bool true) rfl (by kernel_rfl) (by go_simp) ?_
                      simp only [Act.put, List.setIfInBounds_toArray, List.set_cons_zero, List.set_cons_succ]
                      refine wl_take (some 112) (.bool true) rfl (by kernel_rfl) (by go_simp) ?_
                      simp only [Act.put, List.setIfInBounds_toArray, List.set_cons_zero, List.set_cons_succ]
                      refine wl_take (some 113) (.slice (some ⟨g1, 0, none⟩) 2 cap1) rfl (by kernel_rfl) (by go_simp) ?_
                      simp only [Act.put, List.setIfInBounds_toArray, List.set_cons_zero, List.set_cons_succ]
                      refine wl_take (some 114) (.pointer (some ⟨g1, 0, none⟩)) rfl (by kernel_rfl) (by go_simp) ?_
                      simp only [Act.put, List.setIfInBounds_toArray, List.set_cons_zero, List.set_cons_succ]
                      refine wl_take (some 115) (.pointer (some ⟨g1, 3, none⟩)) rfl (by kernel_rfl) (by go_simp) ?_
                      simp only [Act.put, List.setIfInBounds_toArray, List.set_cons_zero, List.set_cons_succ]
                      refine wl_take (some 116) (.pointer (some ⟨g1, 4, none⟩)) rfl (by kernel_rfl) (by go_simp) ?_
                      simp only [Act.put, List.setIfInBounds_toArray, List.set_cons_zero, List.set_cons_succ]
                      refine wl_take (some 117) (.int .i64 ((n : Int) * 1000000)) rfl (by kernel_rfl) (by go_simp) ?_
                      simp only [Act.put, List.setIfInBounds_toArray, List.set_cons_zero, List.set_cons_succ]
                      refine wl_take (some 118) (.int .u32 n) rfl (by kernel_rfl) (by go_simp) ?_
                      simp only [Act.put, List.setIfInBounds_toArray, List.set_cons_zero, List.set_cons_succ]
                      refine wl_take (some 119) (.int .i64 n) rfl (by kernel_rfl) (by go_simp) ?_
                      simp only [Act.put, List.setIfInBounds_toArray, List.set_cons_zero, List.set_cons_succ]
                      refine wl_take (some 120) (.int .i64 ((n : Int) * 1000000)) rfl (by kernel_rfl) (by go_simp) ?_
                      simp only [Act.put, List.setIfInBounds_toArray, List.set_cons_zero, List.set_cons_succ]
                      refine wl_take (some 121) (.bool true) rfl (by kernel_rfl) (by go_simp) ?_
                      simp only [Act.put, List.setIfInBounds_toArray, List.set_cons_zero, List.set_cons_succ]
                      refine wl_take (some 122) (.bool true) rfl (by kernel_rfl) (by go_simp) ?_
                      simp only [Act.put, List.setIfInBounds_toArray, List.set_cons_zero, List.set_cons_succ]
                      refine wl_take (some 123) (.bool true) rfl (by kernel_rfl) (by go_simp) ?_
                      simp only [Act.put, List.setIfInBounds_toArray, List.set_cons_zero, List.set_cons_succ]
                      refine wl_take (some 124) (.int .i64 70) rfl (by kernel_rfl) (by go_simp) ?_
                      simp only [Act.put, List.setIfInBounds_toArray, List.set_cons_zero, List.set_cons_succ]
                      refine wl_take (some 125) (.bool false) rfl (by kernel_rfl) (by go_simp) ?_
                      simp only [Act.put, List.setIfInBounds_toArray, List.set_cons_zero, List.set_cons_succ]
                      refine wl_take (some 126) (.bool false) rfl (by kernel_rfl) (by go_simp) ?_
                      simp only [Act.put, List.setIfInBounds_toArray, List.set_cons_zero, List.set_cons_succ]
                      refine wl_take (some 127) (.bool true) rfl (by kernel_rfl) (by go_simp) ?_
                      simp only [Act.put, List.setIfInBounds_toArray, List.set_cons_zero, List.set_cons_succ]
                      refine wl_take (some 128) (.bool true) rfl (by kernel_rfl) (by go_simp) ?_
                      simp only [Act.put, List.setIfInBounds_toArray, List.set_cons_zero, List.set_cons_succ]
                      refine wl_take (some 129) (.bool true) rfl (by kernel_rfl) (by go_simp) ?_
                      simp only [Act.put, List.setIfInBounds_toArray, List.set_cons_zero, List.set_cons_succ]
                      refine wl_take (some 130) (.bool false) rfl (by kernel_rfl) (by go_simp) ?_
                      simp only [Act.put, List.setIfInBounds_toArray, List.set_cons_zero, List.set_cons_succ]
                      obtain ⟨X, hX⟩ : ∃ X, Hid (X = true) := ⟨_, rfl⟩
                      refine wl_take (some 131) (.bool X) rfl (by kernel_rfl) (by rw [hX.out]; go_simp) ?_
                      simp only [Act.put, List.setIfInBounds_toArray, List.set_cons_zero, List.set_cons_succ]
                      refine wl_take (some 132) (.bool X) rfl (by kernel_rfl) (by go_simp) ?_
                      simp only [Act.put, List.setIfInBounds_toArray, List.set_cons_zero, List.set_cons_succ]
                      refine wl_skip (some 133) rfl (by rw [hX.out]; kernel_rfl) ?_
                      simp only [Act.put, List.setIfInBounds_toArray, List.set_cons_zero, List.set_cons_succ]
                      refine wl_skip (some 134) rfl (by rw [hX.out]; kernel_rfl) ?_
                      simp only [Act.put, List.setIfInBounds_toArray, List.set_cons_zero, List.set_cons_succ]
                      refine wl_skip (some 135) rfl (by rw [hX.out]; kernel_rfl) ?_
                      simp only [Act.put, List.setIfInBounds_toArray, List.set_cons_zero, List.set_cons_succ]
                      refine wl_skip (some 136) rfl (by rw [hX.out]; kernel_rfl) ?_
                      simp only [Act.put, List.setIfInBounds_toArray, List.set_cons_zero, List.set_cons_succ]
                      refine wl_skip (some 137) rfl (by rw [hX.out]; kernel_rfl) ?_
                      simp only [Act.put, List.setIfInBounds_toArray, List.set_cons_zero, List.set_cons_succ]
                      refine wl_skip (some 138) rfl (by rw [hX.out]; kernel_rfl) ?_
                      simp only [Act.put, List.setIfInBounds_toArray, List.set_cons_zero, List.set_cons_succ]
                      refine wl_skip (some 139) rfl (by rw [hX.out]; kernel_rfl) ?_
                      simp only [Act.put, List.setIfInBounds_toArray, List.set_cons_zero, List.set_cons_succ]
                      refine wl_skip (some 140) rfl (by rw [hX.out]; kernel_rfl) ?_
                      simp only [Act.put, List.setIfInBounds_toArray, List.set_cons_zero, List.set_cons_succ]
                      refine wl_take (some 141) (.bool true) rfl (by kernel_rfl) (by rw [hX.out]; go_simp) ?_
                      simp only [Act.put, List.setIfInBounds_toArray, List.set_cons_zero, List.set_cons_succ]
                      refine wl_take (some 142) (.bool true) rfl (by kernel_rfl) (by go_simp) ?_
                      simp only [Act.put, List.setIfInBounds_toArray, List.set_cons_zero, List.set_cons_succ]
                      refine wl_take (some 143) (.bool true) rfl (by kernel_rfl) (by go_simp) ?_
                      simp only [Act.put, List.setIfInBounds_toArray, List.set_cons_zero, List.set_cons_succ]
                      refine wl_take (some 144) (.int .i64 70) rfl (by kernel_rfl) (by go_simp) ?_
                      simp only [Act.put, List.setIfInBounds_toArray, List.set_cons_zero, List.set_cons_succ]
                      refine wl_take (some 145) (.bool false) rfl (by kernel_rfl) (by go_simp) ?_
                      simp only [Act.put, List.setIfInBounds_toArray, List.set_cons_zero, List.set_cons_succ]
                      refine wl_take (some 146) (.bool false) rfl (by kernel_rfl) (by go_simp) ?_
                      simp only [Act.put, List.setIfInBounds_toArray, List.set_cons_zero, List.set_cons_succ]
                      refine wl_take (some 147) (.bool true) rfl (by kernel_rfl) (by go_simp) ?_
                      simp only [Act.put, List.setIfInBounds_toArray, List.set_cons_zero, List.set_cons_succ]
                      refine wl_take (some 148) (.bool true) rfl (by kernel_rfl) (by go_simp) ?_
                      simp only [Act.put, List.setIfInBounds_toArray, List.set_cons_zero, List.set_cons_succ]
                      refine wl_take (some 149) (.bool true) rfl (by kernel_rfl) (by go_simp) ?_
                      simp only [Act.put, List.setIfInBounds_toArray, List.set_cons_zero, List.set_cons_succ]
                      refine wl_take (some 150) (.bool false) rfl (by kernel_rfl) (by go_simp) ?_
                      simp only [Act.put, List.setIfInBounds_toArray, List.set_cons_zero, List.set_cons_succ]
                      obtain ⟨Y, hY⟩ : ∃ Y, Hid (Y = true) := ⟨_, rfl⟩
                      refine wl_take (some 151) (.bool Y) rfl (by kernel_rfl) (by rw [hY.out]; go_simp) ?_
                      simp only [Act.put, List.setIfInBounds_toArray, List.set_cons_zero, List.set_cons_succ]
                      refine wl_take (some 152) (.bool Y) rfl (by kernel_rfl) (by go_simp) ?_
                      simp only [Act.put, List.setIfInBounds_toArray, List.set_cons_zero, List.set_cons_succ]
                      refine wl_skip (some 153) rfl (by rw [hY.out]; kernel_rfl) ?_
                      simp only [Act.put, List.setIfInBounds_toArray, List.set_cons_zero, List.set_cons_succ]
                      refine wl_skip (some 154) rfl (by rw [hY.out]; kernel_rfl) ?_
                      simp only [Act.put, List.setIfInBounds_toArray, List.set_cons_zero, List.set_cons_succ]
                      refine wl_skip (some 155) rfl (by rw [hY.out]; kernel_rfl) ?_
                      simp only [Act.put, List.setIfInBounds_toArray, List.set_cons_zero, List.set_cons_succ]
                      refine wl_skip (some 156) rfl (by rw [hY.out]; kernel_rfl) ?_
                      simp only [Act.put, List.setIfInBounds_toArray, List.set_cons_zero, List.set_cons_succ]
                      refine wl_skip (some 157) rfl (by rw [hY.out]; kernel_rfl) ?_
                      simp only [Act.put, List.setIfInBounds_toArray, List.set_cons_zero, List.set_cons_succ]
                      refine wl_skip (some 158) rfl (by rw [hY.out]; kernel_rfl) ?_
                      simp only [Act.put, List.setIfInBounds_toArray, List.set_cons_zero, List.set_cons_succ]
                      refine wl_skip (some 159) rfl (by rw [hY.out]; kernel_rfl) ?_
                      simp only [Act.put, List.setIfInBounds_toArray, List.set_cons_zero, List.set_cons_succ]
                      refine wl_skip (some 160) rfl (by rw [hY.out]; kernel_rfl) ?_
                      simp only [Act.put, List.setIfInBounds_toArray, List.set_cons_zero, List.set_cons_succ]
                      refine wl_skip (some 161) rfl (by rw [hY.out]; kernel_rfl) ?_
                      simp only [Act.put, List.setIfInBounds_toArray, List.set_cons_zero, List.set_cons_succ]
                      refine wl_skip (some 162) rfl (by rw [hY.out]; kernel_rfl) ?_
                      simp only [Act.put, List.setIfInBounds_toArray, List.set_cons_zero, List.set_cons_succ]
                      refine wl_skip (some 163) rfl (by rw [hY.out]; kernel_rfl) ?_
                      simp only [Act.put, List.setIfInBounds_toArray, List.set_cons_zero, List.set_cons_succ]
                      refine wl_skip (some 164) rfl (by rw [hY.out]; kernel_rfl) ?_
                      simp only [Act.put, List.setIfInBounds_toArray, List.set_cons_zero, List.set_cons_succ]
                      refine wl_skip (some 165) rfl (by rw [hY.out]; kernel_rfl) ?_
                      simp only [Act.put, List.setIfInBounds_toArray, List.set_cons_zero, List.set_cons_succ]
                      refine wl_take (some 166) (.bool true) rfl (by kernel_rfl) (by rw [hY.out]; go_simp) ?_
                      simp only [Act.put, List.setIfInBounds_toArray, List.set_cons_zero, List.set_cons_succ]
                      refine wl_take (some 167) (.bool true) rfl (by kernel_rfl) (by go_simp) ?_
                      simp only [Act.put, List.setIfInBounds_toArray, List.set_cons_zero, List.set_cons_succ]
                      refine wl_take (some 168) (.bool true) rfl (by kernel_rfl) (by go_simp) ?_
                      simp only [Act.put, List.setIfInBounds_toArray, List.set_cons_zero, List.set_cons_succ]
                      refine wl_take (some 169) (.int .i64 0) rfl (by kernel_rfl) (by go_simp) ?_
                      simp only [Act.put, List.setIfInBounds_toArray, List.set_cons_zero, List.set_cons_succ]
                      refine wl_take (some 170) (.bool true) rfl (by kernel_rfl) (by go_simp) ?_
                      simp only [Act.put, List.setIfInBounds_toArray, List.set_cons_zero, List.set_cons_succ]
                      refine wl_take (some 171) (.bool true) rfl (by kernel_rfl) (by go_simp) ?_
                      simp only [Act.put, List.setIfInBounds_toArray, List.set_cons_zero, List.set_cons_succ]
                      refine wl_take (some 172) (.bool true) rfl (by kernel_rfl) (by go_simp) ?_
                      simp only [Act.put, List.setIfInBounds_toArray, List.set_cons_zero, List.set_cons_succ]
                      refine wl_take (some 173) (.bool true) rfl (by kernel_rfl) (by go_simp) ?_
                      simp only [Act.put, List.setIfInBounds_toArray, List.set_cons_zero, List.set_cons_succ]
                      refine wl_take (some 174) (.bool true) rfl (by kernel_rfl) (by go_simp) ?_
                      simp only [Act.put, List.setIfInBounds_toArray, List.set_cons_zero, List.set_cons_succ]
                      refine wl_take (some 175) (.bool true) rfl (by kernel_rfl) (by go_simp) ?_
                      simp only [Act.put, List.setIfInBounds_toArray, List.set_cons_zero, List.set_cons_succ]
                      refine wl_take (some 176) (.bool false) rfl (by kernel_rfl) (by go_simp) ?_
                      simp only [Act.put, List.setIfInBounds_toArray, List.set_cons_zero, List.set_cons_succ]
                      refine wl_take (some 177) (.bool false) rfl (by kernel_rfl) (by go_simp) ?_
                      simp only [Act.put, List.setIfInBounds_toArray, List.set_cons_zero, List.set_cons_succ]
                      refine wl_take (some 178) (.slice (some ⟨g4, 0, none⟩) 2 cap4) rfl (by kernel_rfl) (by go_simp) ?_
                      simp only [Act.put, List.setIfInBounds_toArray, List.set_cons_zero, List.set_cons_succ]
                      refine wl_take (some 179) (.pointer (some ⟨g4, 0, none⟩)) rfl (by kernel_rfl) (by go_simp) ?_
                      simp only [Act.put, List.setIfInBounds_toArray, List.set_cons_zero, List.set_cons_succ]
                      refine wl_take (some 180) (.pointer (some ⟨g4, 2, none⟩)) rfl (by kernel_rfl) (by go_simp) ?_
                      simp only [Act.put, List.setIfInBounds_toArray, List.set_cons_zero, List.set_cons_succ]
                      refine wl_take (some 181) (tx q) rfl (by kernel_rfl) (by go_simp) ?_
                      simp only [Act.put, List.setIfInBounds_toArray, List.set_cons_zero, List.set_cons_succ]
                      refine wl_take (some 182) (tx q) rfl (by kernel_rfl) (by go_simp) ?_
                      simp only [Act.put, List.setIfInBounds_toArray, List.set_cons_zero, List.set_cons_succ]
                      refine wl_take (some 183) (.bool true) rfl (by kernel_rfl) (by go_simp) ?_
                      simp only [Act.put, List.setIfInBounds_toArray, List.set_cons_zero, List.set_cons_succ]
                      refine wl_take (some 184) (.bool true) rfl (by kernel_rfl) (by go_simp) ?_
                      simp only [Act.put, List.setIfInBounds_toArray, List.set_cons_zero, List.set_cons_succ]
                      refine wl_take (some 185) (.bool true) rfl (by kernel_rfl) (by go_simp) ?_
                      simp only [Act.put, List.setIfInBounds_toArray, List.set_cons_zero, List.set_cons_succ]
                      refine wl_take (some 8) (.bool true) rfl (by kernel_rfl) (by go_simp) ?_
                      simp only [Act.put, List.setIfInBounds_toArray, List.set_cons_zero, List.set_cons_succ]
                      refine wpList_nil ?_
                      go_wp2
                      go_ret
                      exact ⟨rfl, B8⟩
                    · rw [N4] at ho4
                      obtain ⟨ao4, cap4, rfl, _, _, _⟩ := ho4.slice
                      rw [N3]
                      have r1 : ¬ (j : Int) ≤ 20 := by omega
                      have rd : Hid (decide ((j : Int) ≤ 20) = false) := decide_eq_false r1
                      clear N3 N4 HNM ho4
                      go_upto_region 16 with fail
                      rw [rd.out]
                      rw [hod.out]
                      refine wp_region_lit ?_
                      simp only [List.append_eq, List.cons_append, List.nil_append]
                      refine wl_take (some 110) (.int .i64 0) rfl (by kernel_rfl) (by go_simp) ?_
                      simp only [Act.put, List.setIfInBounds_toArray, List.set_cons_zero, List.set_cons_succ]
                      refine wl_take (some 111) (.bool true) rfl (by kernel_rfl) (by go_simp) ?_
                      simp only [Act.put, List.setIfInBounds_toArray, List.set_cons_zero, List.set_cons_succ]
                      refine wl_take (some 112) (.bool true) rfl (by kernel_rfl) (by go_simp) ?_
                      simp only [Act.put, List.setIfInBounds_toArray, List.set_cons_zero, List.set_cons_succ]
                      refine wl_take (some 113) (.slice (some ⟨g1, 0, none⟩) 2 cap1) rfl (by kernel_rfl) (by go_simp) ?_
                      simp only [Act.put, List.setIfInBounds_toArray, List.set_cons_zero, List.set_cons_succ]
                      refine wl_take (some 114) (.pointer (some ⟨g1, 0, none⟩)) rfl (by kernel_rfl) (by go_simp) ?_
                      simp only [Act.put, List.setIfInBounds_toArray, List.set_cons_zero, List.set_cons_succ]
                      refine wl_take (some 115) (.pointer (some ⟨g1, 3, none⟩)) rfl (by kernel_rfl) (by go_simp) ?_
                      simp only [Act.put, List.setIfInBounds_toArray, List.set_cons_zero, List.set_cons_succ]
                      refine wl_take (some 116) (.pointer (some ⟨g1, 4, none⟩)) rfl (by kernel_rfl) (by go_simp) ?_
                      simp only [Act.put, List.setIfInBounds_toArray, List.set_cons_zero, List.set_cons_succ]
                      refine wl_take (some 117) (.int .i64 ((n : Int) * 1000000)) rfl (by kernel_rfl) (by go_simp) ?_
                      simp only [Act.put, List.setIfInBounds_toArray, List.set_cons_zero, List.set_cons_succ]
                      refine wl_take (some 118) (.int .u32 n) rfl (by kernel_rfl) (by go_simp) ?_
                      simp only [Act.put, List.setIfInBounds_toArray, List.set_cons_zero, List.set_cons_succ]
                      refine wl_take (some 119) (.int .i64 n) rfl (by kernel_rfl) (by go_simp) ?_
                      simp only [Act.put, List.setIfInBounds_toArray, List.set_cons_zero, List.set_cons_succ]
                      refine wl_take (some 120) (.int .i64 ((n : Int) * 1000000)) rfl (by kernel_rfl) (by go_simp) ?_
                      simp only [Act.put, List.setIfInBounds_toArray, List.set_cons_zero, List.set_cons_succ]
                      refine wl_take (some 121) (.bool true) rfl (by kernel_rfl) (by go_simp) ?_
                      simp only [Act.put, List.setIfInBounds_toArray, List.set_cons_zero, List.set_cons_succ]
                      refine wl_take (some 122) (.bool true) rfl (by kernel_rfl) (by go_simp) ?_
                      simp only [Act.put, List.setIfInBounds_toArray, List.set_cons_zero, List.set_cons_succ]
                      refine wl_take (some 123) (.bool true) rfl (by kernel_rfl) (by go_simp) ?_
                      simp only [Act.put, List.setIfInBounds_toArray, List.set_cons_zero, List.set_cons_succ]
                      refine wl_take (some 124) (.int .i64 70) rfl (by kernel_rfl) (by go_simp) ?_
                      simp only [Act.put, List.setIfInBounds_toArray, List.set_cons_zero, List.set_cons_succ]
                      refine wl_take (some 125) (.bool false) rfl (by kernel_rfl) (by go_simp) ?_
                      simp only [Act.put, List.setIfInBounds_toArray, List.set_cons_zero, List.set_cons_succ]
                      refine wl_take (some 126) (.bool false) rfl (by kernel_rfl) (by go_simp) ?_
                      simp only [Act.put, List.setIfInBounds_toArray, List.set_cons_zero, List.set_cons_succ]
                      refine wl_take (some 127) (.bool true) rfl (by kernel_rfl) (by go_simp) ?_
                      simp only [Act.put, List.setIfInBounds_toArray, List.set_cons_zero, List.set_cons_succ]
                      refine wl_take (some 128) (.bool true) rfl (by kernel_rfl) (by go_simp) ?_
                      simp only [Act.put, List.setIfInBounds_toArray, List.set_cons_zero, List.set_cons_succ]
                      refine wl_take (some 129) (.bool true) rfl (by kernel_rfl) (by go_simp) ?_
                      simp only [Act.put, List.setIfInBounds_toArray, List.set_cons_zero, List.set_cons_succ]
                      refine wl_take (some 130) (.bool false) rfl (by kernel_rfl) (by go_simp) ?_
                      simp only [Act.put, List.setIfInBounds_toArray, List.set_cons_zero, List.set_cons_succ]
                      obtain ⟨X, hX⟩ : ∃ X, Hid (X = true) := ⟨_, rfl⟩
                      refine wl_take (some 131) (.bool X) rfl (by kernel_rfl) (by rw [hX.out]; go_simp) ?_
                      simp only [Act.put, List.setIfInBounds_toArray, List.set_cons_zero, List.set_cons_succ]
                      refine wl_take (some 132) (.bool X) rfl (by kernel_rfl) (by go_simp) ?_
                      simp only [Act.put, List.setIfInBounds_toArray, List.set_cons_zero, List.set_cons_succ]
                      refine wl_skip (some 133) rfl (by rw [hX.out]; kernel_rfl) ?_
                      simp only [Act.put, List.setIfInBounds_toArray, List.set_cons_zero, List.set_cons_succ]
                      refine wl_skip (some 134) rfl (by rw [hX.out]; kernel_rfl) ?_
                      simp only [Act.put, List.setIfInBounds_toArray, List.set_cons_zero, List.set_cons_succ]
                      refine wl_skip (some 135) rfl (by rw [hX.out]; kernel_rfl) ?_
                      simp only [Act.put, List.setIfInBounds_toArray, List.set_cons_zero, List.set_cons_succ]
                      refine wl_skip (some 136) rfl (by rw [hX.out]; kernel_rfl) ?_
                      simp only [Act.put, List.setIfInBounds_toArray, List.set_cons_zero, List.set_cons_succ]
                      refine wl_skip (some 137) rfl (by rw [hX.out]; kernel_rfl) ?_
                      simp only [Act.put, List.setIfInBounds_toArray, List.set_cons_zero, List.set_cons_succ]
                      refine wl_skip (some 138) rfl (by rw [hX.out]; kernel_rfl) ?_
                      simp only [Act.put, List.setIfInBounds_toArray, List.set_cons_zero, List.set_cons_succ]
                      refine wl_skip (some 139) rfl (by rw [hX.out]; kernel_rfl) ?_
                      simp only [Act.put, List.setIfInBounds_toArray, List.set_cons_zero, List.set_cons_succ]
                      refine wl_skip (some 140) rfl (by rw [hX.out]; kernel_rfl) ?_
                      simp only [Act.put, List.setIfInBounds_toArray, List.set_cons_zero, List.set_cons_succ]
                      refine wl_take (some 141) (.bool true) rfl (by kernel_rfl) (by rw [hX.out]; go_simp) ?_
                      simp only [Act.put, List.setIfInBounds_toArray, List.set_cons_zero, List.set_cons_succ]
                      refine wl_take (some 142) (.bool true) rfl (by kernel_rfl) (by go_simp) ?_
                      simp only [Act.put, List.setIfInBounds_toArray, List.set_cons_zero, List.set_cons_succ]
                      refine wl_take (some 143) (.bool true) rfl (by kernel_rfl) (by go_simp) ?_
                      simp only [Act.put, List.setIfInBounds_toArray, List.set_cons_zero, List.set_cons_succ]
                      refine wl_take (some 144) (.int .i64 70) rfl (by kernel_rfl) (by go_simp) ?_
                      simp only [Act.put, List.setIfInBounds_toArray, List.set_cons_zero, List.set_cons_succ]
                      refine wl_take (some 145) (.bool false) rfl (by kernel_rfl) (by go_simp) ?_
                      simp only [Act.put, List.setIfInBounds_toArray, List.set_cons_zero, List.set_cons_succ]
                      refine wl_take (some 146) (.bool false) rfl (by kernel_rfl) (by go_simp) ?_
                      simp only [Act.put, List.setIfInBounds_toArray, List.set_cons_zero, List.set_cons_succ]
                      refine wl_take (some 147) (.bool true) rfl (by kernel_rfl) (by go_simp) ?_
                      simp only [Act.put, List.setIfInBounds_toArray, List.set_cons_zero, List.set_cons_succ]
                      refine wl_take (some 148) (.bool true) rfl (by kernel_rfl) (by go_simp) ?_
                      simp only [Act.put, List.setIfInBounds_toArray, List.set_cons_zero, List.set_cons_succ]
                      refine wl_take (some 149) (.bool true) rfl (by kernel_rfl) (by go_simp) ?_
                      simp only [Act.put, List.setIfInBounds_toArray, List.set_cons_zero, List.set_cons_succ]
                      refine wl_take (some 150) (.bool false) rfl (by kernel_rfl) (by go_simp) ?_
                      simp only [Act.put, List.setIfInBounds_toArray, List.set_cons_zero, List.set_cons_succ]
                      obtain ⟨Y, hY⟩ : ∃ Y, Hid (Y = true) := ⟨_, rfl⟩
                      refine wl_take (some 151) (.bool Y) rfl (by kernel_rfl) (by rw [hY.out]; go_simp) ?_
                      simp only [Act.put, List.setIfInBounds_toArray, List.set_cons_zero, List.set_cons_succ]
                      refine wl_take (some 152) (.bool Y) rfl (by kernel_rfl) (by go_simp) ?_
                      simp only [Act.put, List.setIfInBounds_toArray, List.set_cons_zero, List.set_cons_succ]
                      refine wl_skip (some 153) rfl (by rw [hY.out]; kernel_rfl) ?_
                      simp only [Act.put, List.setIfInBounds_toArray, List.set_cons_zero, List.set_cons_succ]
                      refine wl_skip (some 154) rfl (by rw [hY.out]; kernel_rfl) ?_
                      simp only [Act.put, List.setIfInBounds_toArray, List.set_cons_zero, List.set_cons_succ]
                      refine wl_skip (some 155) rfl (by rw [hY.out]; kernel_rfl) ?_
                      simp only [Act.put, List.setIfInBounds_toArray, List.set_cons_zero, List.set_cons_succ]
                      refine wl_skip (some 156) rfl (by rw [hY.out]; kernel_rfl) ?_
                      simp only [Act.put, List.setIfInBounds_toArray, List.set_cons_zero, List.set_cons_succ]
                      refine wl_skip (some 157) rfl (by rw [hY.out]; kernel_rfl) ?_
                      simp only [Act.put, List.setIfInBounds_toArray, List.set_cons_zero, List.set_cons_succ]
                      refine wl_skip (some 158) rfl (by rw [hY.out]; kernel_rfl) ?_
                      simp only [Act.put, List.setIfInBounds_toArray, List.set_cons_zero, List.set_cons_succ]
                      refine wl_skip (some 159) rfl (by rw [hY.out]; kernel_rfl) ?_
                      simp only [Act.put, List.setIfInBounds_toArray, List.set_cons_zero, List.set_cons_succ]
                      refine wl_skip (some 160) rfl (by rw [hY.out]; kernel_rfl) ?_
                      simp only [Act.put, List.setIfInBounds_toArray, List.set_cons_zero, List.set_cons_succ]
                      refine wl_skip (some 161) rfl (by rw [hY.out]; kernel_rfl) ?_
                      simp only [Act.put, List.setIfInBounds_toArray, List.set_cons_zero, List.set_cons_succ]
                      refine wl_skip (some 162) rfl (by rw [hY.out]; kernel_rfl) ?_
                      simp only [Act.put, List.setIfInBounds_toArray, List.set_cons_zero, List.set_cons_succ]
                      refine wl_skip (some 163) rfl (by rw [hY.out]; kernel_rfl) ?_
                      simp only [Act.put, List.setIfInBounds_toArray, List.set_cons_zero, List.set_cons_succ]
                      refine wl_skip (some 164) rfl (by rw [hY.out]; kernel_rfl) ?_
                      simp only [Act.put, List.setIfInBounds_toArray, List.set_cons_zero, List.set_cons_succ]
                      refine wl_skip (some 165) rfl (by rw [hY.out]; kernel_rfl) ?_
                      simp only [Act.put, List.setIfInBounds_toArray, List.set_cons_zero, List.set_cons_succ]
                      refine wl_take (some 166) (.bool true) rfl (by kernel_rfl) (by rw [hY.out]; go_simp) ?_
                      simp only [Act.put, List.setIfInBounds_toArray, List.set_cons_zero, List.set_cons_succ]
                      refine wl_take (some 167) (.bool true) rfl (by kernel_rfl) (by go_simp) ?_
                      simp only [Act.put, List.setIfInBounds_toArray, List.set_cons_zero, List.set_cons_succ]
                      refine wl_take (some 168) (.bool true) rfl (by kernel_rfl) (by go_simp) ?_
                      simp only [Act.put, List.setIfInBounds_toArray, List.set_cons_zero, List.set_cons_succ]
                      refine wl_take (some 169) (.int .i64 70) rfl (by kernel_rfl) (by go_simp) ?_
                      simp only [Act.put, List.setIfInBounds_toArray, List.set_cons_zero, List.set_cons_succ]
                      refine wl_take (some 170) (.bool false) rfl (by kernel_rfl) (by go_simp) ?_
                      simp only [Act.put, List.setIfInBounds_toArray, List.set_cons_zero, List.set_cons_succ]
                      refine wl_take (some 171) (.bool false) rfl (by kernel_rfl) (by go_simp) ?_
                      simp only [Act.put, List.setIfInBounds_toArray, List.set_cons_zero, List.set_cons_succ]
                      refine wl_take (some 172) (.bool true) rfl (by kernel_rfl) (by go_simp) ?_
                      simp only [Act.put, List.setIfInBounds_toArray, List.set_cons_zero, List.set_cons_succ]
                      refine wl_take (some 173) (.bool true) rfl (by kernel_rfl) (by go_simp) ?_
                      simp only [Act.put, List.setIfInBounds_toArray, List.set_cons_zero, List.set_cons_succ]
                      refine wl_take (some 174) (.bool true) rfl (by kernel_rfl) (by go_simp) ?_
                      simp only [Act.put, List.setIfInBounds_toArray, List.set_cons_zero, List.set_cons_succ]
                      refine wl_take (some 175) (.bool false) rfl (by kernel_rfl) (by go_simp) ?_
                      simp only [Act.put, List.setIfInBounds_toArray, List.set_cons_zero, List.set_cons_succ]
                      obtain ⟨Z, hZ⟩ : ∃ Z, Hid (Z = true) := ⟨_, rfl⟩
                      refine wl_take (some 176) (.bool Z) rfl (by kernel_rfl) (by rw [hZ.out]; go_simp) ?_
                      simp only [Act.put, List.setIfInBounds_toArray, List.set_cons_zero, List.set_cons_succ]
                      refine wl_take (some 177) (.bool Z) rfl (by kernel_rfl) (by go_simp) ?_
                      simp only [Act.put, List.setIfInBounds_toArray, List.set_cons_zero, List.set_cons_succ]
                      refine wl_skip (some 178) rfl (by rw [hZ.out]; kernel_rfl) ?_
                      simp only [Act.put, List.setIfInBounds_toArray, List.set_cons_zero, List.set_cons_succ]
                      refine wl_skip (some 179) rfl (by rw [hZ.out]; kernel_rfl) ?_
                      simp only [Act.put, List.setIfInBounds_toArray, List.set_cons_zero, List.set_cons_succ]
                      refine wl_skip (some 180) rfl (by rw [hZ.out]; kernel_rfl) ?_
                      simp only [Act.put, List.setIfInBounds_toArray, List.set_cons_zero, List.set_cons_succ]
                      refine wl_skip (some 181) rfl (by rw [hZ.out]; kernel_rfl) ?_
                      simp only [Act.put, List.setIfInBounds_toArray, List.set_cons_zero, List.set_cons_succ]
                      refine wl_skip (some 182) rfl (by rw [hZ.out]; kernel_rfl) ?_
                      simp only [Act.put, List.setIfInBounds_toArray, List.set_cons_zero, List.set_cons_succ]
                      refine wl_skip (some 183) rfl (by rw [hZ.out]; kernel_rfl) ?_
                      simp only [Act.put, List.setIfInBounds_toArray, List.set_cons_zero, List.set_cons_succ]
                      refine wl_take (some 184) (.bool true) rfl (by kernel_rfl) (by rw [hZ.out]; go_simp) ?_
                      simp only [Act.put, List.setIfInBounds_toArray, List.set_cons_zero, List.set_cons_succ]
                      refine wl_take (some 185) (.bool true) rfl (by kernel_rfl) (by go_simp) ?_
                      simp only [Act.put, List.setIfInBounds_toArray, List.set_cons_zero, List.set_cons_succ]
                      refine wl_take (some 8) (.bool true) rfl (by kernel_rfl) (by go_simp) ?_
                      simp only [Act.put, List.setIfInBounds_toArray, List.set_cons_zero, List.set_cons_succ]
                      refine wpList_nil ?_
                      go_wp2
                      go_ret
                      exact ⟨rfl, B8⟩
end Go.Proofs.YtajbjbnfklllkaaGreatDoor
