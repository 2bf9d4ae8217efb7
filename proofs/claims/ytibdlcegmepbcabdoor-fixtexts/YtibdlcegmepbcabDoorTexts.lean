/- FixTexts: the walk. -/
import Derived.Test.YtibdlcegmepbcabDoorTextsPlain
import Derived.Test.YtibdlcegmepbcabDoorSub
import Derived.Deep.CutBlock
namespace Go.Proofs.YtibdlcegmepbcabDoor
open Go.RowKit

theorem dot_next {T : List UInt8} {k : Nat} (h : k < T.length) : hasDot (T.take (k + 1)) = (hasDot (T.take k) || ((((⟨T.toArray⟩ : ByteArray)[k]'(ba_lt h)).toNat : Int) == 46)) := by
  rw [take_snocB T k h]
  unfold hasDot
  rw [List.any_append]
  have e : ((((⟨T.toArray⟩ : ByteArray)[k]'(ba_lt h)).toNat : Int) == 46) = (T[k] == 46) := by
    show ((T[k].toNat : Int) == 46) = (T[k] == 46)
    by_cases hc : T[k] = 46
    · rw [hc]
      rfl
    · have h1 : ¬ (T[k].toNat : Int) = 46 := fun e => hc (UInt8.toNat_inj.1 (by show T[k].toNat = 46; omega))
      rw [beq_eq_false_iff_ne.2 h1, beq_eq_false_iff_ne.2 hc]
  rw [e]
  simp
theorem last_byte {T : List UInt8} (h : T.length - 1 < T.length) (hl : T.getLast? ≠ some 48) : ((((⟨T.toArray⟩ : ByteArray)[T.length - 1]'(ba_lt h)).toNat : Int) == 48) = false := by
  refine beq_eq_false_iff_ne.2 fun e => hl ?_
  have e1 : (T[T.length - 1].toNat : Int) = 48 := e
  have e2 : T[T.length - 1] = 48 := UInt8.toNat_inj.1 (by show T[T.length - 1].toNat = 48; omega)
  rw [List.getLast?_eq_getElem?, List.getElem?_eq_getElem h, e2]

set_option maxRecDepth 20000 in
set_option maxHeartbeats 4000000 in
theorem texts_p_none_true (A p r : Nat) (v : Int) (T T2 T3 : List UInt8) (hA : A < 4294967296) (hp : p < 4294967296) (hr : p % 1000000 = r) (hr0 : ¬ r = 0) (hv : v = ((A * 1000000 + r : Nat) : Int)) (hl0 : 1 ≤ T.length) (hl1 : T.length ≤ 20)
    (hd : hasDot T = true) (hlast : T.getLast? ≠ some 48) (w : World) (ht : Tab Tryd.prog w)
    (ha1 : (⟨T.toArray⟩ : ByteArray) ++ ⟨#[48]⟩ = ⟨T2.toArray⟩) (ha2 : (⟨#[48]⟩ : ByteArray) ++ ⟨T.toArray⟩ = ⟨T3.toArray⟩)
    (hpr : ∀ W, Tab Tryd.prog W → Calls Tryd.prog 14 #[.agg #[.bool false, .int .i64 v]] W fun e w' => e = .returned (.string ⟨T.toArray⟩) ∧ Below W.heap.size W w')
    (hP1 : ∀ W, Calls Tryd.prog 15 #[.string ⟨T.toArray⟩] W fun e w' => e = .returned (.tuple #[.agg #[.bool false, .int .i64 v], .int .i64 0]) ∧ Below W.heap.size W w')
    (hP2 : ∀ W, Calls Tryd.prog 15 #[.string ⟨T2.toArray⟩] W fun e w' => e = .returned (.tuple #[.agg #[.bool false, .int .i64 0], .int .i64 20]) ∧ Below W.heap.size W w')
    (hP3 : ∀ W, Calls Tryd.prog 15 #[.string ⟨T3.toArray⟩] W fun e w' => e = .returned (.tuple #[.agg #[.bool false, .int .i64 0], .int .i64 20]) ∧ Below W.heap.size W w')
    
     :
    Calls Tryd.prog 4 #[.int .u32 (A : Int), .int .u32 (p : Int), .bool false] w fun e w' => e = .returned (.bool true) ∧ Below w.heap.size w w' := by
  have hpr' : (p : Int) % 1000000 = (r : Int) := by omega
  have hr1 : r < 1000000 := by omega
  have HR0 : Hid _ := hr0
  clear hr0
  have HR : Hid _ := hr
  have HV : Hid _ := hv
  clear hr hv
  go_enter Tryd.func4, Tryd.ntmps4
  go_wp2_with fail
  refine (known_any _ ht).mono ?_
  rintro e wk ⟨rfl, hbk⟩
  have h7 := Box.new wk false v
  have A7 := bal (Below.refl _ wk) (.cells #[.bool false, .int .i64 v] 24)
  have hb7 := Below.chain hbk A7
  have hve : (A : Int) * 1000000 + (r : Int) = v := by have := HV.out; omega
  obtain ⟨x0, x1, _, _⟩ := id h7
  go_wp2_with fail
  generalize wk.alloc (.cells #[.bool false, .int .i64 v] 24) = w00 at *
  clear hve A7
  refine (hpr _ (ht.later hb7)).mono ?_
  rintro e wp ⟨rfl, hbp⟩
  have h7p := h7.later hbp
  have hbP := Below.chain hb7 hbp
  clear x0 x1 h7 hb7 hbp
  go_wp2_with fail
  refine (hP1 _).mono ?_
  rintro e w2 ⟨rfl, hb2⟩
  have h92 := Box.new w2 false v
  have A9 := bal (Below.refl _ w2) (.cells #[.bool false, .int .i64 v] 24)
  have h72 := (h7p.later hb2).later A9
  have hb3 := Below.chain (Below.chain hbP hb2) A9
  clear h7p hbP
  go_wp2_with fail
  generalize w2.alloc (.cells #[.bool false, .int .i64 v] 24) = w3 at *
  refine (hP2 _).mono ?_
  rintro e w4 ⟨rfl, hb4⟩
  have h11 := Box.new w4 false 0
  have A11 := bal (Below.refl _ w4) (.cells #[.bool false, .int .i64 0] 24)
  have h94 := (h92.later hb4).later A11
  have h74 := (h72.later hb4).later A11
  have hb5 := Below.chain (Below.chain hb3 hb4) A11
  clear h92 h72 hb3 A9
  go_wp2_with fail
  generalize w4.alloc (.cells #[.bool false, .int .i64 0] 24) = w5 at *
  refine (hP3 _).mono ?_
  rintro e w6 ⟨rfl, hb6⟩
  have h13 := Box.new w6 false 0
  have A13 := bal (Below.refl _ w6) (.cells #[.bool false, .int .i64 0] 24)
  have h9 := (h94.later hb6).later A13
  have h7 := (h74.later hb6).later A13
  have h11' := (h11.later hb6).later A13
  have hb := Below.chain (Below.chain hb5 hb6) A13
  clear h94 h74 h11 hb5 A11
  obtain ⟨x0, x1, _, _⟩ := id h7
  obtain ⟨y0, y1, _, _⟩ := id h9
  obtain ⟨z0, z1, _, _⟩ := id h11'
  obtain ⟨q0, q1, _, _⟩ := id h13
  go_wp2_with fail
  generalize w6.alloc (.cells #[.bool false, .int .i64 0] 24) = w1 at *
  have HDD : Hid _ := hd
  clear hd
  go_loop [15, 16] (fun d i => ∃ k : Nat, k ≤ T.length ∧ i = .int .i64 k ∧ d = .bool (hasDot (T.take k))) (fun _ i => T.length - (intOf i).toNat)
  case atStart => exact ⟨0, by omega, rfl, rfl⟩
  case round =>
    obtain ⟨k, hk, rfl, rfl⟩ := hrel
    by_cases hlt : k < T.length
    · have hbkk := ba_lt hlt
      have HS : Hid _ := dot_next hlt
      cases hc : hasDot (T.take k) with
      | true =>
        have HC : Hid _ := hc
        clear hc
        go_wp2_with fail
        go_round
        case rel => exact ⟨k + 1, by omega, by go_num, by rw [HS.out, HC.out]; rfl⟩
        case measure => simp [intOf]; omega
      | false =>
        have HC : Hid _ := hc
        clear hc
        by_cases h46 : (((⟨T.toArray⟩ : ByteArray)[k]'hbkk).toNat : Int) = 46
        · have h46' : Hid _ := h46
          have hb46 : ((((⟨T.toArray⟩ : ByteArray)[k]'hbkk).toNat : Int) == 46) = true := beq_iff_eq.2 h46
          clear h46
          go_wp2_with fail
          go_round
          case rel => exact ⟨k + 1, by omega, by go_num, by rw [HS.out, HC.out, h46'.out]; rfl⟩
          case measure => simp [intOf]; omega
        · have hb46 : ((((⟨T.toArray⟩ : ByteArray)[k]'hbkk).toNat : Int) == 46) = false := beq_eq_false_iff_ne.2 h46
          have H46 : Hid _ := hb46
          go_wp2_with fail
          go_round
          case rel => exact ⟨k + 1, by omega, by go_num, by rw [HS.out, HC.out, H46.out]; rfl⟩
          case measure => simp [intOf]; omega
    · have ek : hasDot (T.take k) = true := by rw [List.take_of_length_le (by omega)]; exact HDD.out
      rw [ek]
      clear ek
      have hll : T.length - 1 < T.length := by omega
      have hbl := ba_lt hll
      have hnl : ((((⟨T.toArray⟩ : ByteArray)[T.length - 1]'hbl).toNat : Int) == 48) = false := by
        exact last_byte hll hlast
      have hr2 : ((r : Int) == 0) = false := beq_eq_false_iff_ne.2 (by have h0 : ¬ r = 0 := HR0.out; omega)
      have hr3 : ((r : Int) != 0) = true := by rw [bne_iff_ne]; have h0 : ¬ r = 0 := HR0.out; omega
      go_upto_region 17 with fail
      have m0 := h7.at0
      have m1 := h7.at1
      have m2 := h11'.at0
      have m3 := h11'.at1
      refine wp_region_noPanic ?_
      refine wp_region_held_drew (S := fun W => Below w1.heap.size w1 W) (by kernel_rfl) ?_ (fun _ => ?_)
      · exact (Below.refl _ _).drew
      have B2 : Below w1.heap.size w1 w1.drew := (Below.refl _ _).drew
      generalize w1.drew = w2' at *
      refine take_at 0 (some 96) (.int .i64 20) rfl rfl (by kernel_rfl) (by kernel_rfl) (by kernel_rfl) (fun _ _ _ h => h) (by rfl) (fun W hSw => by go_simp) B2 ?_
      simp only [Act.put, List.setIfInBounds_toArray, List.set_cons_zero, List.set_cons_succ]
      refine take_at 1 (some 97) (.bool true) rfl rfl (by kernel_rfl) (by kernel_rfl) (by kernel_rfl) (fun _ _ _ h => h) (by rfl) (fun W hSw => by go_simp) B2 ?_
      simp only [Act.put, List.setIfInBounds_toArray, List.set_cons_zero, List.set_cons_succ]
      refine take_at 2 (some 98) (.bool true) rfl rfl (by kernel_rfl) (by kernel_rfl) (by kernel_rfl) (fun _ _ _ h => h) (by rfl) (fun W hSw => by go_simp) B2 ?_
      simp only [Act.put, List.setIfInBounds_toArray, List.set_cons_zero, List.set_cons_succ]
      refine skip_at 3 (some 99) rfl rfl (by kernel_rfl) (by kernel_rfl) (by kernel_rfl) (fun _ _ _ h => h) (by rfl) B2 ?_
      simp only [Act.put, List.setIfInBounds_toArray, List.set_cons_zero, List.set_cons_succ]
      refine skip_at 4 (some 100) rfl rfl (by kernel_rfl) (by kernel_rfl) (by kernel_rfl) (fun _ _ _ h => h) (by rfl) B2 ?_
      simp only [Act.put, List.setIfInBounds_toArray, List.set_cons_zero, List.set_cons_succ]
      refine skip_at 5 (some 101) rfl rfl (by kernel_rfl) (by kernel_rfl) (by kernel_rfl) (fun _ _ _ h => h) (by rfl) B2 ?_
      simp only [Act.put, List.setIfInBounds_toArray, List.set_cons_zero, List.set_cons_succ]
      refine skip_at 6 (some 102) rfl rfl (by kernel_rfl) (by kernel_rfl) (by kernel_rfl) (fun _ _ _ h => h) (by rfl) B2 ?_
      simp only [Act.put, List.setIfInBounds_toArray, List.set_cons_zero, List.set_cons_succ]
      refine skip_at 7 (some 103) rfl rfl (by kernel_rfl) (by kernel_rfl) (by kernel_rfl) (fun _ _ _ h => h) (by rfl) B2 ?_
      simp only [Act.put, List.setIfInBounds_toArray, List.set_cons_zero, List.set_cons_succ]
      refine skip_at 8 (some 104) rfl rfl (by kernel_rfl) (by kernel_rfl) (by kernel_rfl) (fun _ _ _ h => h) (by rfl) B2 ?_
      simp only [Act.put, List.setIfInBounds_toArray, List.set_cons_zero, List.set_cons_succ]
      refine take_at 9 (some 105) (.bool true) rfl rfl (by kernel_rfl) (by kernel_rfl) (by kernel_rfl) (fun _ _ _ h => h) (by rfl) (fun W hSw => by go_simp) B2 ?_
      simp only [Act.put, List.setIfInBounds_toArray, List.set_cons_zero, List.set_cons_succ]
      refine take_at 10 (some 106) (.bool true) rfl rfl (by kernel_rfl) (by kernel_rfl) (by kernel_rfl) (fun _ _ _ h => h) (by rfl) (fun W hSw => by go_simp) B2 ?_
      simp only [Act.put, List.setIfInBounds_toArray, List.set_cons_zero, List.set_cons_succ]
      refine skip_at 11 (some 107) rfl rfl (by kernel_rfl) (by kernel_rfl) (by kernel_rfl) (fun _ _ _ h => h) (by rfl) B2 ?_
      simp only [Act.put, List.setIfInBounds_toArray, List.set_cons_zero, List.set_cons_succ]
      refine skip_at 12 (some 108) rfl rfl (by kernel_rfl) (by kernel_rfl) (by kernel_rfl) (fun _ _ _ h => h) (by rfl) B2 ?_
      simp only [Act.put, List.setIfInBounds_toArray, List.set_cons_zero, List.set_cons_succ]
      refine skip_at 13 (some 109) rfl rfl (by kernel_rfl) (by kernel_rfl) (by kernel_rfl) (fun _ _ _ h => h) (by rfl) B2 ?_
      simp only [Act.put, List.setIfInBounds_toArray, List.set_cons_zero, List.set_cons_succ]
      refine skip_at 14 (some 110) rfl rfl (by kernel_rfl) (by kernel_rfl) (by kernel_rfl) (fun _ _ _ h => h) (by rfl) B2 ?_
      simp only [Act.put, List.setIfInBounds_toArray, List.set_cons_zero, List.set_cons_succ]
      refine skip_at 15 (some 111) rfl rfl (by kernel_rfl) (by kernel_rfl) (by kernel_rfl) (fun _ _ _ h => h) (by rfl) B2 ?_
      simp only [Act.put, List.setIfInBounds_toArray, List.set_cons_zero, List.set_cons_succ]
      refine skip_at 16 (some 112) rfl rfl (by kernel_rfl) (by kernel_rfl) (by kernel_rfl) (fun _ _ _ h => h) (by rfl) B2 ?_
      simp only [Act.put, List.setIfInBounds_toArray, List.set_cons_zero, List.set_cons_succ]
      refine skip_at 17 (some 113) rfl rfl (by kernel_rfl) (by kernel_rfl) (by kernel_rfl) (fun _ _ _ h => h) (by rfl) B2 ?_
      simp only [Act.put, List.setIfInBounds_toArray, List.set_cons_zero, List.set_cons_succ]
      refine skip_at 18 (some 114) rfl rfl (by kernel_rfl) (by kernel_rfl) (by kernel_rfl) (fun _ _ _ h => h) (by rfl) B2 ?_
      simp only [Act.put, List.setIfInBounds_toArray, List.set_cons_zero, List.set_cons_succ]
      refine skip_at 19 (some 115) rfl rfl (by kernel_rfl) (by kernel_rfl) (by kernel_rfl) (fun _ _ _ h => h) (by rfl) B2 ?_
      simp only [Act.put, List.setIfInBounds_toArray, List.set_cons_zero, List.set_cons_succ]
      refine take_at 20 (some 116) (.bool true) rfl rfl (by kernel_rfl) (by kernel_rfl) (by kernel_rfl) (fun _ _ _ h => h) (by rfl) (fun W hSw => by go_simp) B2 ?_
      simp only [Act.put, List.setIfInBounds_toArray, List.set_cons_zero, List.set_cons_succ]
      refine take_at 21 (some 6) (.bool true) rfl rfl (by kernel_rfl) (by kernel_rfl) (by kernel_rfl) (fun _ _ _ h => h) (by rfl) (fun W hSw => by go_simp) B2 ?_
      simp only [Act.put, List.setIfInBounds_toArray, List.set_cons_zero, List.set_cons_succ]
      refine wpAnyH_done (by kernel_rfl) ?_ _
      refine NoPanic.normal ?_
      go_wp2
      go_ret
      exact ⟨rfl, Below.chain hb B2⟩
set_option maxRecDepth 20000 in
set_option maxHeartbeats 4000000 in
theorem texts_p_none_false (A p r : Nat) (v : Int) (T T2 T3 : List UInt8) (hA : A < 4294967296) (hp : p < 4294967296) (hr : p % 1000000 = r) (hr0 : r = 0) (hv : v = ((A * 1000000 + r : Nat) : Int)) (hl0 : 1 ≤ T.length) (hl1 : T.length ≤ 20)
    (hd : hasDot T = false) (w : World) (ht : Tab Tryd.prog w)
    (ha1 : (⟨T.toArray⟩ : ByteArray) ++ ⟨#[48]⟩ = ⟨T2.toArray⟩) (ha2 : (⟨#[48]⟩ : ByteArray) ++ ⟨T.toArray⟩ = ⟨T3.toArray⟩)
    (hpr : ∀ W, Tab Tryd.prog W → Calls Tryd.prog 14 #[.agg #[.bool false, .int .i64 v]] W fun e w' => e = .returned (.string ⟨T.toArray⟩) ∧ Below W.heap.size W w')
    (hP1 : ∀ W, Calls Tryd.prog 15 #[.string ⟨T.toArray⟩] W fun e w' => e = .returned (.tuple #[.agg #[.bool false, .int .i64 v], .int .i64 0]) ∧ Below W.heap.size W w')
    (hP2 : ∀ W, Calls Tryd.prog 15 #[.string ⟨T2.toArray⟩] W fun e w' => e = .returned (.tuple #[.agg #[.bool false, .int .i64 0], .int .i64 20]) ∧ Below W.heap.size W w')
    (hP3 : ∀ W, Calls Tryd.prog 15 #[.string ⟨T3.toArray⟩] W fun e w' => e = .returned (.tuple #[.agg #[.bool false, .int .i64 0], .int .i64 20]) ∧ Below W.heap.size W w')
    
     :
    Calls Tryd.prog 4 #[.int .u32 (A : Int), .int .u32 (p : Int), .bool false] w fun e w' => e = .returned (.bool true) ∧ Below w.heap.size w w' := by
  have hpr' : (p : Int) % 1000000 = (r : Int) := by omega
  have hr1 : r < 1000000 := by omega
  have HR0 : Hid _ := hr0
  clear hr0
  have HR : Hid _ := hr
  have HV : Hid _ := hv
  clear hr hv
  go_enter Tryd.func4, Tryd.ntmps4
  go_wp2_with fail
  refine (known_any _ ht).mono ?_
  rintro e wk ⟨rfl, hbk⟩
  have h7 := Box.new wk false v
  have A7 := bal (Below.refl _ wk) (.cells #[.bool false, .int .i64 v] 24)
  have hb7 := Below.chain hbk A7
  have hve : (A : Int) * 1000000 + (r : Int) = v := by have := HV.out; omega
  obtain ⟨x0, x1, _, _⟩ := id h7
  go_wp2_with fail
  generalize wk.alloc (.cells #[.bool false, .int .i64 v] 24) = w00 at *
  clear hve A7
  refine (hpr _ (ht.later hb7)).mono ?_
  rintro e wp ⟨rfl, hbp⟩
  have h7p := h7.later hbp
  have hbP := Below.chain hb7 hbp
  clear x0 x1 h7 hb7 hbp
  go_wp2_with fail
  refine (hP1 _).mono ?_
  rintro e w2 ⟨rfl, hb2⟩
  have h92 := Box.new w2 false v
  have A9 := bal (Below.refl _ w2) (.cells #[.bool false, .int .i64 v] 24)
  have h72 := (h7p.later hb2).later A9
  have hb3 := Below.chain (Below.chain hbP hb2) A9
  clear h7p hbP
  go_wp2_with fail
  generalize w2.alloc (.cells #[.bool false, .int .i64 v] 24) = w3 at *
  refine (hP2 _).mono ?_
  rintro e w4 ⟨rfl, hb4⟩
  have h11 := Box.new w4 false 0
  have A11 := bal (Below.refl _ w4) (.cells #[.bool false, .int .i64 0] 24)
  have h94 := (h92.later hb4).later A11
  have h74 := (h72.later hb4).later A11
  have hb5 := Below.chain (Below.chain hb3 hb4) A11
  clear h92 h72 hb3 A9
  go_wp2_with fail
  generalize w4.alloc (.cells #[.bool false, .int .i64 0] 24) = w5 at *
  refine (hP3 _).mono ?_
  rintro e w6 ⟨rfl, hb6⟩
  have h13 := Box.new w6 false 0
  have A13 := bal (Below.refl _ w6) (.cells #[.bool false, .int .i64 0] 24)
  have h9 := (h94.later hb6).later A13
  have h7 := (h74.later hb6).later A13
  have h11' := (h11.later hb6).later A13
  have hb := Below.chain (Below.chain hb5 hb6) A13
  clear h94 h74 h11 hb5 A11
  obtain ⟨x0, x1, _, _⟩ := id h7
  obtain ⟨y0, y1, _, _⟩ := id h9
  obtain ⟨z0, z1, _, _⟩ := id h11'
  obtain ⟨q0, q1, _, _⟩ := id h13
  go_wp2_with fail
  generalize w6.alloc (.cells #[.bool false, .int .i64 0] 24) = w1 at *
  have HDD : Hid _ := hd
  clear hd
  go_loop [15, 16] (fun d i => ∃ k : Nat, k ≤ T.length ∧ i = .int .i64 k ∧ d = .bool (hasDot (T.take k))) (fun _ i => T.length - (intOf i).toNat)
  case atStart => exact ⟨0, by omega, rfl, rfl⟩
  case round =>
    obtain ⟨k, hk, rfl, rfl⟩ := hrel
    by_cases hlt : k < T.length
    · have hbkk := ba_lt hlt
      have HS : Hid _ := dot_next hlt
      cases hc : hasDot (T.take k) with
      | true =>
        have HC : Hid _ := hc
        clear hc
        go_wp2_with fail
        go_round
        case rel => exact ⟨k + 1, by omega, by go_num, by rw [HS.out, HC.out]; rfl⟩
        case measure => simp [intOf]; omega
      | false =>
        have HC : Hid _ := hc
        clear hc
        by_cases h46 : (((⟨T.toArray⟩ : ByteArray)[k]'hbkk).toNat : Int) = 46
        · have h46' : Hid _ := h46
          have hb46 : ((((⟨T.toArray⟩ : ByteArray)[k]'hbkk).toNat : Int) == 46) = true := beq_iff_eq.2 h46
          clear h46
          go_wp2_with fail
          go_round
          case rel => exact ⟨k + 1, by omega, by go_num, by rw [HS.out, HC.out, h46'.out]; rfl⟩
          case measure => simp [intOf]; omega
        · have hb46 : ((((⟨T.toArray⟩ : ByteArray)[k]'hbkk).toNat : Int) == 46) = false := beq_eq_false_iff_ne.2 h46
          have H46 : Hid _ := hb46
          go_wp2_with fail
          go_round
          case rel => exact ⟨k + 1, by omega, by go_num, by rw [HS.out, HC.out, H46.out]; rfl⟩
          case measure => simp [intOf]; omega
    · have ek : hasDot (T.take k) = false := by rw [List.take_of_length_le (by omega)]; exact HDD.out
      rw [ek]
      clear ek
      have hr3 : ((r : Int) != 0) = false := by rw [bne_eq_false_iff_eq]; have := HR0.out; omega
      go_upto_region 17 with fail
      have m0 := h7.at0
      have m1 := h7.at1
      have m2 := h11'.at0
      have m3 := h11'.at1
      refine wp_region_noPanic ?_
      refine wp_region_held_drew (S := fun W => Below w1.heap.size w1 W) (by kernel_rfl) ?_ (fun _ => ?_)
      · exact (Below.refl _ _).drew
      have B2 : Below w1.heap.size w1 w1.drew := (Below.refl _ _).drew
      generalize w1.drew = w2' at *
      refine take_at 0 (some 96) (.int .i64 20) rfl rfl (by kernel_rfl) (by kernel_rfl) (by kernel_rfl) (fun _ _ _ h => h) (by rfl) (fun W hSw => by go_simp) B2 ?_
      simp only [Act.put, List.setIfInBounds_toArray, List.set_cons_zero, List.set_cons_succ]
      refine take_at 1 (some 97) (.bool true) rfl rfl (by kernel_rfl) (by kernel_rfl) (by kernel_rfl) (fun _ _ _ h => h) (by rfl) (fun W hSw => by go_simp) B2 ?_
      simp only [Act.put, List.setIfInBounds_toArray, List.set_cons_zero, List.set_cons_succ]
      refine take_at 2 (some 98) (.bool true) rfl rfl (by kernel_rfl) (by kernel_rfl) (by kernel_rfl) (fun _ _ _ h => h) (by rfl) (fun W hSw => by go_simp) B2 ?_
      simp only [Act.put, List.setIfInBounds_toArray, List.set_cons_zero, List.set_cons_succ]
      refine skip_at 3 (some 99) rfl rfl (by kernel_rfl) (by kernel_rfl) (by kernel_rfl) (fun _ _ _ h => h) (by rfl) B2 ?_
      simp only [Act.put, List.setIfInBounds_toArray, List.set_cons_zero, List.set_cons_succ]
      refine skip_at 4 (some 100) rfl rfl (by kernel_rfl) (by kernel_rfl) (by kernel_rfl) (fun _ _ _ h => h) (by rfl) B2 ?_
      simp only [Act.put, List.setIfInBounds_toArray, List.set_cons_zero, List.set_cons_succ]
      refine skip_at 5 (some 101) rfl rfl (by kernel_rfl) (by kernel_rfl) (by kernel_rfl) (fun _ _ _ h => h) (by rfl) B2 ?_
      simp only [Act.put, List.setIfInBounds_toArray, List.set_cons_zero, List.set_cons_succ]
      refine skip_at 6 (some 102) rfl rfl (by kernel_rfl) (by kernel_rfl) (by kernel_rfl) (fun _ _ _ h => h) (by rfl) B2 ?_
      simp only [Act.put, List.setIfInBounds_toArray, List.set_cons_zero, List.set_cons_succ]
      refine skip_at 7 (some 103) rfl rfl (by kernel_rfl) (by kernel_rfl) (by kernel_rfl) (fun _ _ _ h => h) (by rfl) B2 ?_
      simp only [Act.put, List.setIfInBounds_toArray, List.set_cons_zero, List.set_cons_succ]
      refine skip_at 8 (some 104) rfl rfl (by kernel_rfl) (by kernel_rfl) (by kernel_rfl) (fun _ _ _ h => h) (by rfl) B2 ?_
      simp only [Act.put, List.setIfInBounds_toArray, List.set_cons_zero, List.set_cons_succ]
      refine take_at 9 (some 105) (.bool true) rfl rfl (by kernel_rfl) (by kernel_rfl) (by kernel_rfl) (fun _ _ _ h => h) (by rfl) (fun W hSw => by go_simp) B2 ?_
      simp only [Act.put, List.setIfInBounds_toArray, List.set_cons_zero, List.set_cons_succ]
      refine take_at 10 (some 106) (.bool true) rfl rfl (by kernel_rfl) (by kernel_rfl) (by kernel_rfl) (fun _ _ _ h => h) (by rfl) (fun W hSw => by go_simp) B2 ?_
      simp only [Act.put, List.setIfInBounds_toArray, List.set_cons_zero, List.set_cons_succ]
      refine skip_at 11 (some 107) rfl rfl (by kernel_rfl) (by kernel_rfl) (by kernel_rfl) (fun _ _ _ h => h) (by rfl) B2 ?_
      simp only [Act.put, List.setIfInBounds_toArray, List.set_cons_zero, List.set_cons_succ]
      refine skip_at 12 (some 108) rfl rfl (by kernel_rfl) (by kernel_rfl) (by kernel_rfl) (fun _ _ _ h => h) (by rfl) B2 ?_
      simp only [Act.put, List.setIfInBounds_toArray, List.set_cons_zero, List.set_cons_succ]
      refine skip_at 13 (some 109) rfl rfl (by kernel_rfl) (by kernel_rfl) (by kernel_rfl) (fun _ _ _ h => h) (by rfl) B2 ?_
      simp only [Act.put, List.setIfInBounds_toArray, List.set_cons_zero, List.set_cons_succ]
      refine skip_at 14 (some 110) rfl rfl (by kernel_rfl) (by kernel_rfl) (by kernel_rfl) (fun _ _ _ h => h) (by rfl) B2 ?_
      simp only [Act.put, List.setIfInBounds_toArray, List.set_cons_zero, List.set_cons_succ]
      refine skip_at 15 (some 111) rfl rfl (by kernel_rfl) (by kernel_rfl) (by kernel_rfl) (fun _ _ _ h => h) (by rfl) B2 ?_
      simp only [Act.put, List.setIfInBounds_toArray, List.set_cons_zero, List.set_cons_succ]
      refine skip_at 16 (some 112) rfl rfl (by kernel_rfl) (by kernel_rfl) (by kernel_rfl) (fun _ _ _ h => h) (by rfl) B2 ?_
      simp only [Act.put, List.setIfInBounds_toArray, List.set_cons_zero, List.set_cons_succ]
      refine skip_at 17 (some 113) rfl rfl (by kernel_rfl) (by kernel_rfl) (by kernel_rfl) (fun _ _ _ h => h) (by rfl) B2 ?_
      simp only [Act.put, List.setIfInBounds_toArray, List.set_cons_zero, List.set_cons_succ]
      refine skip_at 18 (some 114) rfl rfl (by kernel_rfl) (by kernel_rfl) (by kernel_rfl) (fun _ _ _ h => h) (by rfl) B2 ?_
      simp only [Act.put, List.setIfInBounds_toArray, List.set_cons_zero, List.set_cons_succ]
      refine skip_at 19 (some 115) rfl rfl (by kernel_rfl) (by kernel_rfl) (by kernel_rfl) (fun _ _ _ h => h) (by rfl) B2 ?_
      simp only [Act.put, List.setIfInBounds_toArray, List.set_cons_zero, List.set_cons_succ]
      refine take_at 20 (some 116) (.bool true) rfl rfl (by kernel_rfl) (by kernel_rfl) (by kernel_rfl) (fun _ _ _ h => h) (by rfl) (fun W hSw => by go_simp) B2 ?_
      simp only [Act.put, List.setIfInBounds_toArray, List.set_cons_zero, List.set_cons_succ]
      refine take_at 21 (some 6) (.bool true) rfl rfl (by kernel_rfl) (by kernel_rfl) (by kernel_rfl) (fun _ _ _ h => h) (by rfl) (fun W hSw => by go_simp) B2 ?_
      simp only [Act.put, List.setIfInBounds_toArray, List.set_cons_zero, List.set_cons_succ]
      refine wpAnyH_done (by kernel_rfl) ?_ _
      refine NoPanic.normal ?_
      go_wp2
      go_ret
      exact ⟨rfl, Below.chain hb B2⟩
set_option maxRecDepth 20000 in
set_option maxHeartbeats 4000000 in
theorem texts_p_dot_true (A p r : Nat) (v : Int) (T T2 T3 : List UInt8) (hA : A < 4294967296) (hp : p < 4294967296) (hr : p % 1000000 = r) (hr0 : ¬ r = 0) (hv : v = ((A * 1000000 + r : Nat) : Int)) (hl0 : 1 ≤ T.length) (hl1 : T.length ≤ 20)
    (hd : hasDot T = true) (hlast : T.getLast? ≠ some 48) (w : World) (ht : Tab Tryd.prog w)
    (ha1 : (⟨T.toArray⟩ : ByteArray) ++ ⟨#[48]⟩ = ⟨T2.toArray⟩) (ha2 : (⟨#[48]⟩ : ByteArray) ++ ⟨T.toArray⟩ = ⟨T3.toArray⟩)
    (hpr : ∀ W, Tab Tryd.prog W → Calls Tryd.prog 14 #[.agg #[.bool false, .int .i64 v]] W fun e w' => e = .returned (.string ⟨T.toArray⟩) ∧ Below W.heap.size W w')
    (hP1 : ∀ W, Calls Tryd.prog 15 #[.string ⟨T.toArray⟩] W fun e w' => e = .returned (.tuple #[.agg #[.bool false, .int .i64 v], .int .i64 0]) ∧ Below W.heap.size W w')
    (hP2 : ∀ W, Calls Tryd.prog 15 #[.string ⟨T2.toArray⟩] W fun e w' => e = .returned (.tuple #[.agg #[.bool false, .int .i64 v], .int .i64 0]) ∧ Below W.heap.size W w')
    (hP3 : ∀ W, Calls Tryd.prog 15 #[.string ⟨T3.toArray⟩] W fun e w' => e = .returned (.tuple #[.agg #[.bool false, .int .i64 0], .int .i64 20]) ∧ Below W.heap.size W w')
    
     :
    Calls Tryd.prog 4 #[.int .u32 (A : Int), .int .u32 (p : Int), .bool false] w fun e w' => e = .returned (.bool true) ∧ Below w.heap.size w w' := by
  have hpr' : (p : Int) % 1000000 = (r : Int) := by omega
  have hr1 : r < 1000000 := by omega
  have HR0 : Hid _ := hr0
  clear hr0
  have HR : Hid _ := hr
  have HV : Hid _ := hv
  clear hr hv
  go_enter Tryd.func4, Tryd.ntmps4
  go_wp2_with fail
  refine (known_any _ ht).mono ?_
  rintro e wk ⟨rfl, hbk⟩
  have h7 := Box.new wk false v
  have A7 := bal (Below.refl _ wk) (.cells #[.bool false, .int .i64 v] 24)
  have hb7 := Below.chain hbk A7
  have hve : (A : Int) * 1000000 + (r : Int) = v := by have := HV.out; omega
  obtain ⟨x0, x1, _, _⟩ := id h7
  go_wp2_with fail
  generalize wk.alloc (.cells #[.bool false, .int .i64 v] 24) = w00 at *
  clear hve A7
  refine (hpr _ (ht.later hb7)).mono ?_
  rintro e wp ⟨rfl, hbp⟩
  have h7p := h7.later hbp
  have hbP := Below.chain hb7 hbp
  clear x0 x1 h7 hb7 hbp
  go_wp2_with fail
  refine (hP1 _).mono ?_
  rintro e w2 ⟨rfl, hb2⟩
  have h92 := Box.new w2 false v
  have A9 := bal (Below.refl _ w2) (.cells #[.bool false, .int .i64 v] 24)
  have h72 := (h7p.later hb2).later A9
  have hb3 := Below.chain (Below.chain hbP hb2) A9
  clear h7p hbP
  go_wp2_with fail
  generalize w2.alloc (.cells #[.bool false, .int .i64 v] 24) = w3 at *
  refine (hP2 _).mono ?_
  rintro e w4 ⟨rfl, hb4⟩
  have h11 := Box.new w4 false v
  have A11 := bal (Below.refl _ w4) (.cells #[.bool false, .int .i64 v] 24)
  have h94 := (h92.later hb4).later A11
  have h74 := (h72.later hb4).later A11
  have hb5 := Below.chain (Below.chain hb3 hb4) A11
  clear h92 h72 hb3 A9
  go_wp2_with fail
  generalize w4.alloc (.cells #[.bool false, .int .i64 v] 24) = w5 at *
  refine (hP3 _).mono ?_
  rintro e w6 ⟨rfl, hb6⟩
  have h13 := Box.new w6 false 0
  have A13 := bal (Below.refl _ w6) (.cells #[.bool false, .int .i64 0] 24)
  have h9 := (h94.later hb6).later A13
  have h7 := (h74.later hb6).later A13
  have h11' := (h11.later hb6).later A13
  have hb := Below.chain (Below.chain hb5 hb6) A13
  clear h94 h74 h11 hb5 A11
  obtain ⟨x0, x1, _, _⟩ := id h7
  obtain ⟨y0, y1, _, _⟩ := id h9
  obtain ⟨z0, z1, _, _⟩ := id h11'
  obtain ⟨q0, q1, _, _⟩ := id h13
  go_wp2_with fail
  generalize w6.alloc (.cells #[.bool false, .int .i64 0] 24) = w1 at *
  have HDD : Hid _ := hd
  clear hd
  go_loop [15, 16] (fun d i => ∃ k : Nat, k ≤ T.length ∧ i = .int .i64 k ∧ d = .bool (hasDot (T.take k))) (fun _ i => T.length - (intOf i).toNat)
  case atStart => exact ⟨0, by omega, rfl, rfl⟩
  case round =>
    obtain ⟨k, hk, rfl, rfl⟩ := hrel
    by_cases hlt : k < T.length
    · have hbkk := ba_lt hlt
      have HS : Hid _ := dot_next hlt
      cases hc : hasDot (T.take k) with
      | true =>
        have HC : Hid _ := hc
        clear hc
        go_wp2_with fail
        go_round
        case rel => exact ⟨k + 1, by omega, by go_num, by rw [HS.out, HC.out]; rfl⟩
        case measure => simp [intOf]; omega
      | false =>
        have HC : Hid _ := hc
        clear hc
        by_cases h46 : (((⟨T.toArray⟩ : ByteArray)[k]'hbkk).toNat : Int) = 46
        · have h46' : Hid _ := h46
          have hb46 : ((((⟨T.toArray⟩ : ByteArray)[k]'hbkk).toNat : Int) == 46) = true := beq_iff_eq.2 h46
          clear h46
          go_wp2_with fail
          go_round
          case rel => exact ⟨k + 1, by omega, by go_num, by rw [HS.out, HC.out, h46'.out]; rfl⟩
          case measure => simp [intOf]; omega
        · have hb46 : ((((⟨T.toArray⟩ : ByteArray)[k]'hbkk).toNat : Int) == 46) = false := beq_eq_false_iff_ne.2 h46
          have H46 : Hid _ := hb46
          go_wp2_with fail
          go_round
          case rel => exact ⟨k + 1, by omega, by go_num, by rw [HS.out, HC.out, H46.out]; rfl⟩
          case measure => simp [intOf]; omega
    · have ek : hasDot (T.take k) = true := by rw [List.take_of_length_le (by omega)]; exact HDD.out
      rw [ek]
      clear ek
      have hll : T.length - 1 < T.length := by omega
      have hbl := ba_lt hll
      have hnl : ((((⟨T.toArray⟩ : ByteArray)[T.length - 1]'hbl).toNat : Int) == 48) = false := by
        exact last_byte hll hlast
      have hr2 : ((r : Int) == 0) = false := beq_eq_false_iff_ne.2 (by have h0 : ¬ r = 0 := HR0.out; omega)
      have hr3 : ((r : Int) != 0) = true := by rw [bne_iff_ne]; have h0 : ¬ r = 0 := HR0.out; omega
      go_upto_region 17 with fail
      have m0 := h7.at0
      have m1 := h7.at1
      have m2 := h11'.at0
      have m3 := h11'.at1
      refine wp_region_noPanic ?_
      refine wp_region_held_drew (S := fun W => Below w1.heap.size w1 W) (by kernel_rfl) ?_ (fun _ => ?_)
      · exact (Below.refl _ _).drew
      have B2 : Below w1.heap.size w1 w1.drew := (Below.refl _ _).drew
      generalize w1.drew = w2' at *
      refine take_at 0 (some 96) (.int .i64 0) rfl rfl (by kernel_rfl) (by kernel_rfl) (by kernel_rfl) (fun _ _ _ h => h) (by rfl) (fun W hSw => by go_simp) B2 ?_
      simp only [Act.put, List.setIfInBounds_toArray, List.set_cons_zero, List.set_cons_succ]
      refine take_at 1 (some 97) (.bool false) rfl rfl (by kernel_rfl) (by kernel_rfl) (by kernel_rfl) (fun _ _ _ h => h) (by rfl) (fun W hSw => by go_simp) B2 ?_
      simp only [Act.put, List.setIfInBounds_toArray, List.set_cons_zero, List.set_cons_succ]
      refine take_at 2 (some 98) (.bool false) rfl rfl (by kernel_rfl) (by kernel_rfl) (by kernel_rfl) (fun _ _ _ h => h) (by rfl) (fun W hSw => by go_simp) B2 ?_
      simp only [Act.put, List.setIfInBounds_toArray, List.set_cons_zero, List.set_cons_succ]
      refine take_at 3 (some 99) (.bool true) rfl rfl (by kernel_rfl) (by kernel_rfl) (by kernel_rfl) (fun _ _ _ h => h) (by rfl) (fun W hSw => by go_simp) B2 ?_
      simp only [Act.put, List.setIfInBounds_toArray, List.set_cons_zero, List.set_cons_succ]
      refine take_at 4 (some 100) (.bool true) rfl rfl (by kernel_rfl) (by kernel_rfl) (by kernel_rfl) (fun _ _ _ h => h) (by rfl) (fun W hSw => by go_simp) B2 ?_
      simp only [Act.put, List.setIfInBounds_toArray, List.set_cons_zero, List.set_cons_succ]
      refine take_at 5 (some 101) (.agg #[.bool false, .int .i64 v]) rfl rfl (by kernel_rfl) (by kernel_rfl) (by kernel_rfl) (fun _ _ _ h => h) (by rfl) (fun W hSw => by go_simp) B2 ?_
      simp only [Act.put, List.setIfInBounds_toArray, List.set_cons_zero, List.set_cons_succ]
      refine take_at 6 (some 102) (.agg #[.bool false, .int .i64 v]) rfl rfl (by kernel_rfl) (by kernel_rfl) (by kernel_rfl) (fun _ _ _ h => h) (by rfl) (fun W hSw => by go_simp) B2 ?_
      simp only [Act.put, List.setIfInBounds_toArray, List.set_cons_zero, List.set_cons_succ]
      refine take_at 7 (some 103) (.bool true) rfl rfl (by kernel_rfl) (by kernel_rfl) (by kernel_rfl) (fun _ _ _ h => h) (by rfl) (fun W hSw => by go_simp) B2 ?_
      simp only [Act.put, List.setIfInBounds_toArray, List.set_cons_zero, List.set_cons_succ]
      refine take_at 8 (some 104) (.bool true) rfl rfl (by kernel_rfl) (by kernel_rfl) (by kernel_rfl) (fun _ _ _ h => h) (by rfl) (fun W hSw => by go_simp) B2 ?_
      simp only [Act.put, List.setIfInBounds_toArray, List.set_cons_zero, List.set_cons_succ]
      refine take_at 9 (some 105) (.bool true) rfl rfl (by kernel_rfl) (by kernel_rfl) (by kernel_rfl) (fun _ _ _ h => h) (by rfl) (fun W hSw => by go_simp) B2 ?_
      simp only [Act.put, List.setIfInBounds_toArray, List.set_cons_zero, List.set_cons_succ]
      refine take_at 10 (some 106) (.bool true) rfl rfl (by kernel_rfl) (by kernel_rfl) (by kernel_rfl) (fun _ _ _ h => h) (by rfl) (fun W hSw => by go_simp) B2 ?_
      simp only [Act.put, List.setIfInBounds_toArray, List.set_cons_zero, List.set_cons_succ]
      refine skip_at 11 (some 107) rfl rfl (by kernel_rfl) (by kernel_rfl) (by kernel_rfl) (fun _ _ _ h => h) (by rfl) B2 ?_
      simp only [Act.put, List.setIfInBounds_toArray, List.set_cons_zero, List.set_cons_succ]
      refine skip_at 12 (some 108) rfl rfl (by kernel_rfl) (by kernel_rfl) (by kernel_rfl) (fun _ _ _ h => h) (by rfl) B2 ?_
      simp only [Act.put, List.setIfInBounds_toArray, List.set_cons_zero, List.set_cons_succ]
      refine skip_at 13 (some 109) rfl rfl (by kernel_rfl) (by kernel_rfl) (by kernel_rfl) (fun _ _ _ h => h) (by rfl) B2 ?_
      simp only [Act.put, List.setIfInBounds_toArray, List.set_cons_zero, List.set_cons_succ]
      refine skip_at 14 (some 110) rfl rfl (by kernel_rfl) (by kernel_rfl) (by kernel_rfl) (fun _ _ _ h => h) (by rfl) B2 ?_
      simp only [Act.put, List.setIfInBounds_toArray, List.set_cons_zero, List.set_cons_succ]
      refine skip_at 15 (some 111) rfl rfl (by kernel_rfl) (by kernel_rfl) (by kernel_rfl) (fun _ _ _ h => h) (by rfl) B2 ?_
      simp only [Act.put, List.setIfInBounds_toArray, List.set_cons_zero, List.set_cons_succ]
      refine skip_at 16 (some 112) rfl rfl (by kernel_rfl) (by kernel_rfl) (by kernel_rfl) (fun _ _ _ h => h) (by rfl) B2 ?_
      simp only [Act.put, List.setIfInBounds_toArray, List.set_cons_zero, List.set_cons_succ]
      refine skip_at 17 (some 113) rfl rfl (by kernel_rfl) (by kernel_rfl) (by kernel_rfl) (fun _ _ _ h => h) (by rfl) B2 ?_
      simp only [Act.put, List.setIfInBounds_toArray, List.set_cons_zero, List.set_cons_succ]
      refine skip_at 18 (some 114) rfl rfl (by kernel_rfl) (by kernel_rfl) (by kernel_rfl) (fun _ _ _ h => h) (by rfl) B2 ?_
      simp only [Act.put, List.setIfInBounds_toArray, List.set_cons_zero, List.set_cons_succ]
      refine skip_at 19 (some 115) rfl rfl (by kernel_rfl) (by kernel_rfl) (by kernel_rfl) (fun _ _ _ h => h) (by rfl) B2 ?_
      simp only [Act.put, List.setIfInBounds_toArray, List.set_cons_zero, List.set_cons_succ]
      refine take_at 20 (some 116) (.bool true) rfl rfl (by kernel_rfl) (by kernel_rfl) (by kernel_rfl) (fun _ _ _ h => h) (by rfl) (fun W hSw => by go_simp) B2 ?_
      simp only [Act.put, List.setIfInBounds_toArray, List.set_cons_zero, List.set_cons_succ]
      refine take_at 21 (some 6) (.bool true) rfl rfl (by kernel_rfl) (by kernel_rfl) (by kernel_rfl) (fun _ _ _ h => h) (by rfl) (fun W hSw => by go_simp) B2 ?_
      simp only [Act.put, List.setIfInBounds_toArray, List.set_cons_zero, List.set_cons_succ]
      refine wpAnyH_done (by kernel_rfl) ?_ _
      refine NoPanic.normal ?_
      go_wp2
      go_ret
      exact ⟨rfl, Below.chain hb B2⟩
set_option maxRecDepth 20000 in
set_option maxHeartbeats 4000000 in
theorem texts_p_bare_false (A p r : Nat) (v v10 : Int) (T T2 T3 : List UInt8) (hA : A < 4294967296) (hp : p < 4294967296) (hr : p % 1000000 = r) (hr0 : r = 0) (hv : v = ((A * 1000000 + r : Nat) : Int)) (hl0 : 1 ≤ T.length) (hl1 : T.length ≤ 20)
    (hd : hasDot T = false) (w : World) (ht : Tab Tryd.prog w)
    (ha1 : (⟨T.toArray⟩ : ByteArray) ++ ⟨#[48]⟩ = ⟨T2.toArray⟩) (ha2 : (⟨#[48]⟩ : ByteArray) ++ ⟨T.toArray⟩ = ⟨T3.toArray⟩)
    (hpr : ∀ W, Tab Tryd.prog W → Calls Tryd.prog 14 #[.agg #[.bool false, .int .i64 v]] W fun e w' => e = .returned (.string ⟨T.toArray⟩) ∧ Below W.heap.size W w')
    (hP1 : ∀ W, Calls Tryd.prog 15 #[.string ⟨T.toArray⟩] W fun e w' => e = .returned (.tuple #[.agg #[.bool false, .int .i64 v], .int .i64 0]) ∧ Below W.heap.size W w')
    (hP2 : ∀ W, Calls Tryd.prog 15 #[.string ⟨T2.toArray⟩] W fun e w' => e = .returned (.tuple #[.agg #[.bool false, .int .i64 v10], .int .i64 0]) ∧ Below W.heap.size W w')
    (hP3 : ∀ W, Calls Tryd.prog 15 #[.string ⟨T3.toArray⟩] W fun e w' => e = .returned (.tuple #[.agg #[.bool false, .int .i64 0], .int .i64 20]) ∧ Below W.heap.size W w')
    (hTen : ∀ W, Calls Tryd.prog 13 #[.int .i64 10] W fun e w' => e = .returned (.agg #[.bool false, .int .i64 10000000]) ∧ Below W.heap.size W w')
    (hMul : ∀ W, Calls Tryd.prog 10 #[.agg #[.bool false, .int .i64 v], .agg #[.bool false, .int .i64 10000000]] W fun e w' => e = .returned (.agg #[.bool false, .int .i64 v10]) ∧ Below W.heap.size W w') :
    Calls Tryd.prog 4 #[.int .u32 (A : Int), .int .u32 (p : Int), .bool false] w fun e w' => e = .returned (.bool true) ∧ Below w.heap.size w w' := by
  have hpr' : (p : Int) % 1000000 = (r : Int) := by omega
  have hr1 : r < 1000000 := by omega
  have HR0 : Hid _ := hr0
  clear hr0
  have HR : Hid _ := hr
  have HV : Hid _ := hv
  clear hr hv
  go_enter Tryd.func4, Tryd.ntmps4
  go_wp2_with fail
  refine (known_any _ ht).mono ?_
  rintro e wk ⟨rfl, hbk⟩
  have h7 := Box.new wk false v
  have A7 := bal (Below.refl _ wk) (.cells #[.bool false, .int .i64 v] 24)
  have hb7 := Below.chain hbk A7
  have hve : (A : Int) * 1000000 + (r : Int) = v := by have := HV.out; omega
  obtain ⟨x0, x1, _, _⟩ := id h7
  go_wp2_with fail
  generalize wk.alloc (.cells #[.bool false, .int .i64 v] 24) = w00 at *
  clear hve A7
  refine (hpr _ (ht.later hb7)).mono ?_
  rintro e wp ⟨rfl, hbp⟩
  have h7p := h7.later hbp
  have hbP := Below.chain hb7 hbp
  clear x0 x1 h7 hb7 hbp
  go_wp2_with fail
  refine (hP1 _).mono ?_
  rintro e w2 ⟨rfl, hb2⟩
  have h92 := Box.new w2 false v
  have A9 := bal (Below.refl _ w2) (.cells #[.bool false, .int .i64 v] 24)
  have h72 := (h7p.later hb2).later A9
  have hb3 := Below.chain (Below.chain hbP hb2) A9
  clear h7p hbP
  go_wp2_with fail
  generalize w2.alloc (.cells #[.bool false, .int .i64 v] 24) = w3 at *
  refine (hP2 _).mono ?_
  rintro e w4 ⟨rfl, hb4⟩
  have h11 := Box.new w4 false v10
  have A11 := bal (Below.refl _ w4) (.cells #[.bool false, .int .i64 v10] 24)
  have h94 := (h92.later hb4).later A11
  have h74 := (h72.later hb4).later A11
  have hb5 := Below.chain (Below.chain hb3 hb4) A11
  clear h92 h72 hb3 A9
  go_wp2_with fail
  generalize w4.alloc (.cells #[.bool false, .int .i64 v10] 24) = w5 at *
  refine (hP3 _).mono ?_
  rintro e w6 ⟨rfl, hb6⟩
  have h13 := Box.new w6 false 0
  have A13 := bal (Below.refl _ w6) (.cells #[.bool false, .int .i64 0] 24)
  have h9 := (h94.later hb6).later A13
  have h7 := (h74.later hb6).later A13
  have h11' := (h11.later hb6).later A13
  have hb := Below.chain (Below.chain hb5 hb6) A13
  clear h94 h74 h11 hb5 A11
  obtain ⟨x0, x1, _, _⟩ := id h7
  obtain ⟨y0, y1, _, _⟩ := id h9
  obtain ⟨z0, z1, _, _⟩ := id h11'
  obtain ⟨q0, q1, _, _⟩ := id h13
  go_wp2_with fail
  generalize w6.alloc (.cells #[.bool false, .int .i64 0] 24) = w1 at *
  have HDD : Hid _ := hd
  clear hd
  go_loop [15, 16] (fun d i => ∃ k : Nat, k ≤ T.length ∧ i = .int .i64 k ∧ d = .bool (hasDot (T.take k))) (fun _ i => T.length - (intOf i).toNat)
  case atStart => exact ⟨0, by omega, rfl, rfl⟩
  case round =>
    obtain ⟨k, hk, rfl, rfl⟩ := hrel
    by_cases hlt : k < T.length
    · have hbkk := ba_lt hlt
      have HS : Hid _ := dot_next hlt
      cases hc : hasDot (T.take k) with
      | true =>
        have HC : Hid _ := hc
        clear hc
        go_wp2_with fail
        go_round
        case rel => exact ⟨k + 1, by omega, by go_num, by rw [HS.out, HC.out]; rfl⟩
        case measure => simp [intOf]; omega
      | false =>
        have HC : Hid _ := hc
        clear hc
        by_cases h46 : (((⟨T.toArray⟩ : ByteArray)[k]'hbkk).toNat : Int) = 46
        · have h46' : Hid _ := h46
          have hb46 : ((((⟨T.toArray⟩ : ByteArray)[k]'hbkk).toNat : Int) == 46) = true := beq_iff_eq.2 h46
          clear h46
          go_wp2_with fail
          go_round
          case rel => exact ⟨k + 1, by omega, by go_num, by rw [HS.out, HC.out, h46'.out]; rfl⟩
          case measure => simp [intOf]; omega
        · have hb46 : ((((⟨T.toArray⟩ : ByteArray)[k]'hbkk).toNat : Int) == 46) = false := beq_eq_false_iff_ne.2 h46
          have H46 : Hid _ := hb46
          go_wp2_with fail
          go_round
          case rel => exact ⟨k + 1, by omega, by go_num, by rw [HS.out, HC.out, H46.out]; rfl⟩
          case measure => simp [intOf]; omega
    · have ek : hasDot (T.take k) = false := by rw [List.take_of_length_le (by omega)]; exact HDD.out
      rw [ek]
      clear ek
      have hr3 : ((r : Int) != 0) = false := by rw [bne_eq_false_iff_eq]; have := HR0.out; omega
      go_upto_region 17 with fail
      have m0 := h7.at0
      have m1 := h7.at1
      have m2 := h11'.at0
      have m3 := h11'.at1
      refine wp_region_noPanic ?_
      refine wp_region_held_drew (S := fun W => Below w1.heap.size w1 W) (by kernel_rfl) ?_ (fun _ => ?_)
      · exact (Below.refl _ _).drew
      have B2 : Below w1.heap.size w1 w1.drew := (Below.refl _ _).drew
      generalize w1.drew = w2' at *
      refine take_at 0 (some 96) (.int .i64 0) rfl rfl (by kernel_rfl) (by kernel_rfl) (by kernel_rfl) (fun _ _ _ h => h) (by rfl) (fun W hSw => by go_simp) B2 ?_
      simp only [Act.put, List.setIfInBounds_toArray, List.set_cons_zero, List.set_cons_succ]
      refine take_at 1 (some 97) (.bool false) rfl rfl (by kernel_rfl) (by kernel_rfl) (by kernel_rfl) (fun _ _ _ h => h) (by rfl) (fun W hSw => by go_simp) B2 ?_
      simp only [Act.put, List.setIfInBounds_toArray, List.set_cons_zero, List.set_cons_succ]
      refine take_at 2 (some 98) (.bool false) rfl rfl (by kernel_rfl) (by kernel_rfl) (by kernel_rfl) (fun _ _ _ h => h) (by rfl) (fun W hSw => by go_simp) B2 ?_
      simp only [Act.put, List.setIfInBounds_toArray, List.set_cons_zero, List.set_cons_succ]
      refine take_at 3 (some 99) (.bool false) rfl rfl (by kernel_rfl) (by kernel_rfl) (by kernel_rfl) (fun _ _ _ h => h) (by rfl) (fun W hSw => by go_simp) B2 ?_
      simp only [Act.put, List.setIfInBounds_toArray, List.set_cons_zero, List.set_cons_succ]
      refine take_at 4 (some 100) (.bool false) rfl rfl (by kernel_rfl) (by kernel_rfl) (by kernel_rfl) (fun _ _ _ h => h) (by rfl) (fun W hSw => by go_simp) B2 ?_
      simp only [Act.put, List.setIfInBounds_toArray, List.set_cons_zero, List.set_cons_succ]
      refine skip_at 5 (some 101) rfl rfl (by kernel_rfl) (by kernel_rfl) (by kernel_rfl) (fun _ _ _ h => h) (by rfl) B2 ?_
      simp only [Act.put, List.setIfInBounds_toArray, List.set_cons_zero, List.set_cons_succ]
      refine skip_at 6 (some 102) rfl rfl (by kernel_rfl) (by kernel_rfl) (by kernel_rfl) (fun _ _ _ h => h) (by rfl) B2 ?_
      simp only [Act.put, List.setIfInBounds_toArray, List.set_cons_zero, List.set_cons_succ]
      refine skip_at 7 (some 103) rfl rfl (by kernel_rfl) (by kernel_rfl) (by kernel_rfl) (fun _ _ _ h => h) (by rfl) B2 ?_
      simp only [Act.put, List.setIfInBounds_toArray, List.set_cons_zero, List.set_cons_succ]
      refine take_at 8 (some 104) (.bool false) rfl rfl (by kernel_rfl) (by kernel_rfl) (by kernel_rfl) (fun _ _ _ h => h) (by rfl) (fun W hSw => by go_simp) B2 ?_
      simp only [Act.put, List.setIfInBounds_toArray, List.set_cons_zero, List.set_cons_succ]
      refine take_at 9 (some 105) (.bool false) rfl rfl (by kernel_rfl) (by kernel_rfl) (by kernel_rfl) (fun _ _ _ h => h) (by rfl) (fun W hSw => by go_simp) B2 ?_
      simp only [Act.put, List.setIfInBounds_toArray, List.set_cons_zero, List.set_cons_succ]
      refine take_at 10 (some 106) (.bool false) rfl rfl (by kernel_rfl) (by kernel_rfl) (by kernel_rfl) (fun _ _ _ h => h) (by rfl) (fun W hSw => by go_simp) B2 ?_
      simp only [Act.put, List.setIfInBounds_toArray, List.set_cons_zero, List.set_cons_succ]
      refine take_at 11 (some 107) (.bool false) rfl rfl (by kernel_rfl) (by kernel_rfl) (by kernel_rfl) (fun _ _ _ h => h) (by rfl) (fun W hSw => by go_simp) B2 ?_
      simp only [Act.put, List.setIfInBounds_toArray, List.set_cons_zero, List.set_cons_succ]
      refine take_at 12 (some 108) (.bool true) rfl rfl (by kernel_rfl) (by kernel_rfl) (by kernel_rfl) (fun _ _ _ h => h) (by rfl) (fun W hSw => by go_simp) B2 ?_
      simp only [Act.put, List.setIfInBounds_toArray, List.set_cons_zero, List.set_cons_succ]
      refine take_at 13 (some 109) (.bool true) rfl rfl (by kernel_rfl) (by kernel_rfl) (by kernel_rfl) (fun _ _ _ h => h) (by rfl) (fun W hSw => by go_simp) B2 ?_
      simp only [Act.put, List.setIfInBounds_toArray, List.set_cons_zero, List.set_cons_succ]
      refine take_at 14 (some 110) (.agg #[.bool false, .int .i64 v10]) rfl rfl (by kernel_rfl) (by kernel_rfl) (by kernel_rfl) (fun _ _ _ h => h) (by rfl) (fun W hSw => by go_simp) B2 ?_
      simp only [Act.put, List.setIfInBounds_toArray, List.set_cons_zero, List.set_cons_succ]
      refine take_at 15 (some 111) (.agg #[.bool false, .int .i64 v]) rfl rfl (by kernel_rfl) (by kernel_rfl) (by kernel_rfl) (fun _ _ _ h => h) (by rfl) (fun W hSw => by go_simp) B2 ?_
      simp only [Act.put, List.setIfInBounds_toArray, List.set_cons_zero, List.set_cons_succ]
      refine wpAnyH_ready (rs := [16]) (by kernel_rfl) (by simp) ?_
      refine AllReadyH.cons rfl (fun K hK => ?_) AllReadyH.nil
      go_simp
      refine (hTen _).mono ?_
      rintro e w11 ⟨rfl, hb11⟩
      have B11 := Below.chain B2 hb11
      refine hK.out _ _ ?_ (fun _ => ?_)
      · exact B11
      clear hK K
      refine wpAnyH_ready (rs := [17]) (by kernel_rfl) (by simp) ?_
      refine AllReadyH.cons rfl (fun K hK => ?_) AllReadyH.nil
      go_simp
      refine (hMul _).mono ?_
      rintro e w12 ⟨rfl, hb12⟩
      have B12 := Below.chain B11 hb12
      refine hK.out _ _ ?_ (fun _ => ?_)
      · exact B12
      clear hK K
      refine take_at 18 (some 114) (.bool true) rfl rfl (by kernel_rfl) (by kernel_rfl) (by kernel_rfl) (fun _ _ _ h => h) (by rfl) (fun W hSw => by go_simp) B12 ?_
      simp only [Act.put, List.setIfInBounds_toArray, List.set_cons_zero, List.set_cons_succ]
      refine take_at 19 (some 115) (.bool true) rfl rfl (by kernel_rfl) (by kernel_rfl) (by kernel_rfl) (fun _ _ _ h => h) (by rfl) (fun W hSw => by go_simp) B12 ?_
      simp only [Act.put, List.setIfInBounds_toArray, List.set_cons_zero, List.set_cons_succ]
      refine take_at 20 (some 116) (.bool true) rfl rfl (by kernel_rfl) (by kernel_rfl) (by kernel_rfl) (fun _ _ _ h => h) (by rfl) (fun W hSw => by go_simp) B12 ?_
      simp only [Act.put, List.setIfInBounds_toArray, List.set_cons_zero, List.set_cons_succ]
      refine take_at 21 (some 6) (.bool true) rfl rfl (by kernel_rfl) (by kernel_rfl) (by kernel_rfl) (fun _ _ _ h => h) (by rfl) (fun W hSw => by go_simp) B12 ?_
      simp only [Act.put, List.setIfInBounds_toArray, List.set_cons_zero, List.set_cons_succ]
      refine wpAnyH_done (by kernel_rfl) ?_ _
      refine NoPanic.normal ?_
      go_wp2
      go_ret
      exact ⟨rfl, Below.chain hb B12⟩
set_option maxRecDepth 20000 in
set_option maxHeartbeats 4000000 in
theorem texts_m_none_true (A p r : Nat) (v : Int) (T T2 T3 : List UInt8) (hA : A < 4294967296) (hp : p < 4294967296) (hr : p % 1000000 = r) (hr0 : ¬ r = 0) (hv : v = -((A * 1000000 + r : Nat) : Int)) (hl0 : 1 ≤ T.length) (hl1 : T.length ≤ 20)
    (hd : hasDot T = true) (hlast : T.getLast? ≠ some 48) (w : World) (ht : Tab Tryd.prog w)
    (ha1 : (⟨T.toArray⟩ : ByteArray) ++ ⟨#[48]⟩ = ⟨T2.toArray⟩) (ha2 : (⟨#[48]⟩ : ByteArray) ++ ⟨T.toArray⟩ = ⟨T3.toArray⟩)
    (hpr : ∀ W, Tab Tryd.prog W → Calls Tryd.prog 14 #[.agg #[.bool false, .int .i64 v]] W fun e w' => e = .returned (.string ⟨T.toArray⟩) ∧ Below W.heap.size W w')
    (hP1 : ∀ W, Calls Tryd.prog 15 #[.string ⟨T.toArray⟩] W fun e w' => e = .returned (.tuple #[.agg #[.bool false, .int .i64 v], .int .i64 0]) ∧ Below W.heap.size W w')
    (hP2 : ∀ W, Calls Tryd.prog 15 #[.string ⟨T2.toArray⟩] W fun e w' => e = .returned (.tuple #[.agg #[.bool false, .int .i64 0], .int .i64 20]) ∧ Below W.heap.size W w')
    (hP3 : ∀ W, Calls Tryd.prog 15 #[.string ⟨T3.toArray⟩] W fun e w' => e = .returned (.tuple #[.agg #[.bool false, .int .i64 0], .int .i64 20]) ∧ Below W.heap.size W w')
    
     :
    Calls Tryd.prog 4 #[.int .u32 (A : Int), .int .u32 (p : Int), .bool true] w fun e w' => e = .returned (.bool true) ∧ Below w.heap.size w w' := by
  have hpr' : (p : Int) % 1000000 = (r : Int) := by omega
  have hr1 : r < 1000000 := by omega
  have HR0 : Hid _ := hr0
  clear hr0
  have HR : Hid _ := hr
  have HV : Hid _ := hv
  clear hr hv
  go_enter Tryd.func4, Tryd.ntmps4
  go_wp2_with fail
  refine (known_any _ ht).mono ?_
  rintro e wk ⟨rfl, hbk⟩
  have ecn : fNeg (cnt false ((A : Int) * 1000000 + (r : Int))) = some v := by
    rw [ex_cnt _ (by omega)]
    show some _ = some v
    exact congrArg some (by have := HV.out; omega)
  have hneg : ∀ W, Calls Tryd.prog 8 #[.agg #[.bool false, .int .i64 ((A : Int) * 1000000 + (r : Int))]] W fun e w' => e = .returned (.agg #[.bool false, .int .i64 v]) ∧ Below W.heap.size W w' := fun W => by
    have h := neg_any false ((A : Int) * 1000000 + (r : Int)) W (by omega) (by omega)
    rw [ecn] at h
    exact h
  clear ecn
  have h70 := Box.new wk false ((A : Int) * 1000000 + (r : Int))
  have A7 := bal (Below.refl _ wk) (.cells #[.bool false, .int .i64 ((A : Int) * 1000000 + (r : Int))] 24)
  go_wp2_with fail
  generalize wk.alloc (.cells #[.bool false, .int .i64 ((A : Int) * 1000000 + (r : Int))] 24) = w0 at *
  refine (hneg _).mono ?_
  rintro e wn ⟨rfl, hbn⟩
  have h71 := h70.later hbn
  have hb71 := Below.chain (Below.chain hbk A7) hbn
  have h7 := h71.put (p := false) (m := v)
  have hb7 := put2 hb71 (b := wk.heap.size) hbk.size false v
  have k0 := h71.c0
  have k1 := h71.c1
  have k2 := h71.f0
  have k3 := h71.f1
  obtain ⟨x0, x1, _, _⟩ := id h7
  go_wp2_with fail
  generalize ((wn.setCell ⟨wk.heap.size, 0, none⟩ (.bool false)).setCell ⟨wk.heap.size, 1, none⟩ (.int .i64 v)) = w00 at *
  clear h71 hb71 h70 A7 hbn k0 k1 k2 k3 hneg
  refine (hpr _ (ht.later hb7)).mono ?_
  rintro e wp ⟨rfl, hbp⟩
  have h7p := h7.later hbp
  have hbP := Below.chain hb7 hbp
  clear x0 x1 h7 hb7 hbp
  go_wp2_with fail
  refine (hP1 _).mono ?_
  rintro e w2 ⟨rfl, hb2⟩
  have h92 := Box.new w2 false v
  have A9 := bal (Below.refl _ w2) (.cells #[.bool false, .int .i64 v] 24)
  have h72 := (h7p.later hb2).later A9
  have hb3 := Below.chain (Below.chain hbP hb2) A9
  clear h7p hbP
  go_wp2_with fail
  generalize w2.alloc (.cells #[.bool false, .int .i64 v] 24) = w3 at *
  refine (hP2 _).mono ?_
  rintro e w4 ⟨rfl, hb4⟩
  have h11 := Box.new w4 false 0
  have A11 := bal (Below.refl _ w4) (.cells #[.bool false, .int .i64 0] 24)
  have h94 := (h92.later hb4).later A11
  have h74 := (h72.later hb4).later A11
  have hb5 := Below.chain (Below.chain hb3 hb4) A11
  clear h92 h72 hb3 A9
  go_wp2_with fail
  generalize w4.alloc (.cells #[.bool false, .int .i64 0] 24) = w5 at *
  refine (hP3 _).mono ?_
  rintro e w6 ⟨rfl, hb6⟩
  have h13 := Box.new w6 false 0
  have A13 := bal (Below.refl _ w6) (.cells #[.bool false, .int .i64 0] 24)
  have h9 := (h94.later hb6).later A13
  have h7 := (h74.later hb6).later A13
  have h11' := (h11.later hb6).later A13
  have hb := Below.chain (Below.chain hb5 hb6) A13
  clear h94 h74 h11 hb5 A11
  obtain ⟨x0, x1, _, _⟩ := id h7
  obtain ⟨y0, y1, _, _⟩ := id h9
  obtain ⟨z0, z1, _, _⟩ := id h11'
  obtain ⟨q0, q1, _, _⟩ := id h13
  go_wp2_with fail
  generalize w6.alloc (.cells #[.bool false, .int .i64 0] 24) = w1 at *
  have HDD : Hid _ := hd
  clear hd
  go_loop [15, 16] (fun d i => ∃ k : Nat, k ≤ T.length ∧ i = .int .i64 k ∧ d = .bool (hasDot (T.take k))) (fun _ i => T.length - (intOf i).toNat)
  case atStart => exact ⟨0, by omega, rfl, rfl⟩
  case round =>
    obtain ⟨k, hk, rfl, rfl⟩ := hrel
    by_cases hlt : k < T.length
    · have hbkk := ba_lt hlt
      have HS : Hid _ := dot_next hlt
      cases hc : hasDot (T.take k) with
      | true =>
        have HC : Hid _ := hc
        clear hc
        go_wp2_with fail
        go_round
        case rel => exact ⟨k + 1, by omega, by go_num, by rw [HS.out, HC.out]; rfl⟩
        case measure => simp [intOf]; omega
      | false =>
        have HC : Hid _ := hc
        clear hc
        by_cases h46 : (((⟨T.toArray⟩ : ByteArray)[k]'hbkk).toNat : Int) = 46
        · have h46' : Hid _ := h46
          have hb46 : ((((⟨T.toArray⟩ : ByteArray)[k]'hbkk).toNat : Int) == 46) = true := beq_iff_eq.2 h46
          clear h46
          go_wp2_with fail
          go_round
          case rel => exact ⟨k + 1, by omega, by go_num, by rw [HS.out, HC.out, h46'.out]; rfl⟩
          case measure => simp [intOf]; omega
        · have hb46 : ((((⟨T.toArray⟩ : ByteArray)[k]'hbkk).toNat : Int) == 46) = false := beq_eq_false_iff_ne.2 h46
          have H46 : Hid _ := hb46
          go_wp2_with fail
          go_round
          case rel => exact ⟨k + 1, by omega, by go_num, by rw [HS.out, HC.out, H46.out]; rfl⟩
          case measure => simp [intOf]; omega
    · have ek : hasDot (T.take k) = true := by rw [List.take_of_length_le (by omega)]; exact HDD.out
      rw [ek]
      clear ek
      have hll : T.length - 1 < T.length := by omega
      have hbl := ba_lt hll
      have hnl : ((((⟨T.toArray⟩ : ByteArray)[T.length - 1]'hbl).toNat : Int) == 48) = false := by
        exact last_byte hll hlast
      have hr2 : ((r : Int) == 0) = false := beq_eq_false_iff_ne.2 (by have h0 : ¬ r = 0 := HR0.out; omega)
      have hr3 : ((r : Int) != 0) = true := by rw [bne_iff_ne]; have h0 : ¬ r = 0 := HR0.out; omega
      go_upto_region 17 with fail
      have m0 := h7.at0
      have m1 := h7.at1
      have m2 := h11'.at0
      have m3 := h11'.at1
      refine wp_region_noPanic ?_
      refine wp_region_held_drew (S := fun W => Below w1.heap.size w1 W) (by kernel_rfl) ?_ (fun _ => ?_)
      · exact (Below.refl _ _).drew
      have B2 : Below w1.heap.size w1 w1.drew := (Below.refl _ _).drew
      generalize w1.drew = w2' at *
      refine take_at 0 (some 96) (.int .i64 20) rfl rfl (by kernel_rfl) (by kernel_rfl) (by kernel_rfl) (fun _ _ _ h => h) (by rfl) (fun W hSw => by go_simp) B2 ?_
      simp only [Act.put, List.setIfInBounds_toArray, List.set_cons_zero, List.set_cons_succ]
      refine take_at 1 (some 97) (.bool true) rfl rfl (by kernel_rfl) (by kernel_rfl) (by kernel_rfl) (fun _ _ _ h => h) (by rfl) (fun W hSw => by go_simp) B2 ?_
      simp only [Act.put, List.setIfInBounds_toArray, List.set_cons_zero, List.set_cons_succ]
      refine take_at 2 (some 98) (.bool true) rfl rfl (by kernel_rfl) (by kernel_rfl) (by kernel_rfl) (fun _ _ _ h => h) (by rfl) (fun W hSw => by go_simp) B2 ?_
      simp only [Act.put, List.setIfInBounds_toArray, List.set_cons_zero, List.set_cons_succ]
      refine skip_at 3 (some 99) rfl rfl (by kernel_rfl) (by kernel_rfl) (by kernel_rfl) (fun _ _ _ h => h) (by rfl) B2 ?_
      simp only [Act.put, List.setIfInBounds_toArray, List.set_cons_zero, List.set_cons_succ]
      refine skip_at 4 (some 100) rfl rfl (by kernel_rfl) (by kernel_rfl) (by kernel_rfl) (fun _ _ _ h => h) (by rfl) B2 ?_
      simp only [Act.put, List.setIfInBounds_toArray, List.set_cons_zero, List.set_cons_succ]
      refine skip_at 5 (some 101) rfl rfl (by kernel_rfl) (by kernel_rfl) (by kernel_rfl) (fun _ _ _ h => h) (by rfl) B2 ?_
      simp only [Act.put, List.setIfInBounds_toArray, List.set_cons_zero, List.set_cons_succ]
      refine skip_at 6 (some 102) rfl rfl (by kernel_rfl) (by kernel_rfl) (by kernel_rfl) (fun _ _ _ h => h) (by rfl) B2 ?_
      simp only [Act.put, List.setIfInBounds_toArray, List.set_cons_zero, List.set_cons_succ]
      refine skip_at 7 (some 103) rfl rfl (by kernel_rfl) (by kernel_rfl) (by kernel_rfl) (fun _ _ _ h => h) (by rfl) B2 ?_
      simp only [Act.put, List.setIfInBounds_toArray, List.set_cons_zero, List.set_cons_succ]
      refine skip_at 8 (some 104) rfl rfl (by kernel_rfl) (by kernel_rfl) (by kernel_rfl) (fun _ _ _ h => h) (by rfl) B2 ?_
      simp only [Act.put, List.setIfInBounds_toArray, List.set_cons_zero, List.set_cons_succ]
      refine take_at 9 (some 105) (.bool true) rfl rfl (by kernel_rfl) (by kernel_rfl) (by kernel_rfl) (fun _ _ _ h => h) (by rfl) (fun W hSw => by go_simp) B2 ?_
      simp only [Act.put, List.setIfInBounds_toArray, List.set_cons_zero, List.set_cons_succ]
      refine take_at 10 (some 106) (.bool true) rfl rfl (by kernel_rfl) (by kernel_rfl) (by kernel_rfl) (fun _ _ _ h => h) (by rfl) (fun W hSw => by go_simp) B2 ?_
      simp only [Act.put, List.setIfInBounds_toArray, List.set_cons_zero, List.set_cons_succ]
      refine skip_at 11 (some 107) rfl rfl (by kernel_rfl) (by kernel_rfl) (by kernel_rfl) (fun _ _ _ h => h) (by rfl) B2 ?_
      simp only [Act.put, List.setIfInBounds_toArray, List.set_cons_zero, List.set_cons_succ]
      refine skip_at 12 (some 108) rfl rfl (by kernel_rfl) (by kernel_rfl) (by kernel_rfl) (fun _ _ _ h => h) (by rfl) B2 ?_
      simp only [Act.put, List.setIfInBounds_toArray, List.set_cons_zero, List.set_cons_succ]
      refine skip_at 13 (some 109) rfl rfl (by kernel_rfl) (by kernel_rfl) (by kernel_rfl) (fun _ _ _ h => h) (by rfl) B2 ?_
      simp only [Act.put, List.setIfInBounds_toArray, List.set_cons_zero, List.set_cons_succ]
      refine skip_at 14 (some 110) rfl rfl (by kernel_rfl) (by kernel_rfl) (by kernel_rfl) (fun _ _ _ h => h) (by rfl) B2 ?_
      simp only [Act.put, List.setIfInBounds_toArray, List.set_cons_zero, List.set_cons_succ]
      refine skip_at 15 (some 111) rfl rfl (by kernel_rfl) (by kernel_rfl) (by kernel_rfl) (fun _ _ _ h => h) (by rfl) B2 ?_
      simp only [Act.put, List.setIfInBounds_toArray, List.set_cons_zero, List.set_cons_succ]
      refine skip_at 16 (some 112) rfl rfl (by kernel_rfl) (by kernel_rfl) (by kernel_rfl) (fun _ _ _ h => h) (by rfl) B2 ?_
      simp only [Act.put, List.setIfInBounds_toArray, List.set_cons_zero, List.set_cons_succ]
      refine skip_at 17 (some 113) rfl rfl (by kernel_rfl) (by kernel_rfl) (by kernel_rfl) (fun _ _ _ h => h) (by rfl) B2 ?_
      simp only [Act.put, List.setIfInBounds_toArray, List.set_cons_zero, List.set_cons_succ]
      refine skip_at 18 (some 114) rfl rfl (by kernel_rfl) (by kernel_rfl) (by kernel_rfl) (fun _ _ _ h => h) (by rfl) B2 ?_
      simp only [Act.put, List.setIfInBounds_toArray, List.set_cons_zero, List.set_cons_succ]
      refine skip_at 19 (some 115) rfl rfl (by kernel_rfl) (by kernel_rfl) (by kernel_rfl) (fun _ _ _ h => h) (by rfl) B2 ?_
      simp only [Act.put, List.setIfInBounds_toArray, List.set_cons_zero, List.set_cons_succ]
      refine take_at 20 (some 116) (.bool true) rfl rfl (by kernel_rfl) (by kernel_rfl) (by kernel_rfl) (fun _ _ _ h => h) (by rfl) (fun W hSw => by go_simp) B2 ?_
      simp only [Act.put, List.setIfInBounds_toArray, List.set_cons_zero, List.set_cons_succ]
      refine take_at 21 (some 6) (.bool true) rfl rfl (by kernel_rfl) (by kernel_rfl) (by kernel_rfl) (fun _ _ _ h => h) (by rfl) (fun W hSw => by go_simp) B2 ?_
      simp only [Act.put, List.setIfInBounds_toArray, List.set_cons_zero, List.set_cons_succ]
      refine wpAnyH_done (by kernel_rfl) ?_ _
      refine NoPanic.normal ?_
      go_wp2
      go_ret
      exact ⟨rfl, Below.chain hb B2⟩
set_option maxRecDepth 20000 in
set_option maxHeartbeats 4000000 in
theorem texts_m_none_false (A p r : Nat) (v : Int) (T T2 T3 : List UInt8) (hA : A < 4294967296) (hp : p < 4294967296) (hr : p % 1000000 = r) (hr0 : r = 0) (hv : v = -((A * 1000000 + r : Nat) : Int)) (hl0 : 1 ≤ T.length) (hl1 : T.length ≤ 20)
    (hd : hasDot T = false) (w : World) (ht : Tab Tryd.prog w)
    (ha1 : (⟨T.toArray⟩ : ByteArray) ++ ⟨#[48]⟩ = ⟨T2.toArray⟩) (ha2 : (⟨#[48]⟩ : ByteArray) ++ ⟨T.toArray⟩ = ⟨T3.toArray⟩)
    (hpr : ∀ W, Tab Tryd.prog W → Calls Tryd.prog 14 #[.agg #[.bool false, .int .i64 v]] W fun e w' => e = .returned (.string ⟨T.toArray⟩) ∧ Below W.heap.size W w')
    (hP1 : ∀ W, Calls Tryd.prog 15 #[.string ⟨T.toArray⟩] W fun e w' => e = .returned (.tuple #[.agg #[.bool false, .int .i64 v], .int .i64 0]) ∧ Below W.heap.size W w')
    (hP2 : ∀ W, Calls Tryd.prog 15 #[.string ⟨T2.toArray⟩] W fun e w' => e = .returned (.tuple #[.agg #[.bool false, .int .i64 0], .int .i64 20]) ∧ Below W.heap.size W w')
    (hP3 : ∀ W, Calls Tryd.prog 15 #[.string ⟨T3.toArray⟩] W fun e w' => e = .returned (.tuple #[.agg #[.bool false, .int .i64 0], .int .i64 20]) ∧ Below W.heap.size W w')
    
     :
    Calls Tryd.prog 4 #[.int .u32 (A : Int), .int .u32 (p : Int), .bool true] w fun e w' => e = .returned (.bool true) ∧ Below w.heap.size w w' := by
  have hpr' : (p : Int) % 1000000 = (r : Int) := by omega
  have hr1 : r < 1000000 := by omega
  have HR0 : Hid _ := hr0
  clear hr0
  have HR : Hid _ := hr
  have HV : Hid _ := hv
  clear hr hv
  go_enter Tryd.func4, Tryd.ntmps4
  go_wp2_with fail
  refine (known_any _ ht).mono ?_
  rintro e wk ⟨rfl, hbk⟩
  have ecn : fNeg (cnt false ((A : Int) * 1000000 + (r : Int))) = some v := by
    rw [ex_cnt _ (by omega)]
    show some _ = some v
    exact congrArg some (by have := HV.out; omega)
  have hneg : ∀ W, Calls Tryd.prog 8 #[.agg #[.bool false, .int .i64 ((A : Int) * 1000000 + (r : Int))]] W fun e w' => e = .returned (.agg #[.bool false, .int .i64 v]) ∧ Below W.heap.size W w' := fun W => by
    have h := neg_any false ((A : Int) * 1000000 + (r : Int)) W (by omega) (by omega)
    rw [ecn] at h
    exact h
  clear ecn
  have h70 := Box.new wk false ((A : Int) * 1000000 + (r : Int))
  have A7 := bal (Below.refl _ wk) (.cells #[.bool false, .int .i64 ((A : Int) * 1000000 + (r : Int))] 24)
  go_wp2_with fail
  generalize wk.alloc (.cells #[.bool false, .int .i64 ((A : Int) * 1000000 + (r : Int))] 24) = w0 at *
  refine (hneg _).mono ?_
  rintro e wn ⟨rfl, hbn⟩
  have h71 := h70.later hbn
  have hb71 := Below.chain (Below.chain hbk A7) hbn
  have h7 := h71.put (p := false) (m := v)
  have hb7 := put2 hb71 (b := wk.heap.size) hbk.size false v
  have k0 := h71.c0
  have k1 := h71.c1
  have k2 := h71.f0
  have k3 := h71.f1
  obtain ⟨x0, x1, _, _⟩ := id h7
  go_wp2_with fail
  generalize ((wn.setCell ⟨wk.heap.size, 0, none⟩ (.bool false)).setCell ⟨wk.heap.size, 1, none⟩ (.int .i64 v)) = w00 at *
  clear h71 hb71 h70 A7 hbn k0 k1 k2 k3 hneg
  refine (hpr _ (ht.later hb7)).mono ?_
  rintro e wp ⟨rfl, hbp⟩
  have h7p := h7.later hbp
  have hbP := Below.chain hb7 hbp
  clear x0 x1 h7 hb7 hbp
  go_wp2_with fail
  refine (hP1 _).mono ?_
  rintro e w2 ⟨rfl, hb2⟩
  have h92 := Box.new w2 false v
  have A9 := bal (Below.refl _ w2) (.cells #[.bool false, .int .i64 v] 24)
  have h72 := (h7p.later hb2).later A9
  have hb3 := Below.chain (Below.chain hbP hb2) A9
  clear h7p hbP
  go_wp2_with fail
  generalize w2.alloc (.cells #[.bool false, .int .i64 v] 24) = w3 at *
  refine (hP2 _).mono ?_
  rintro e w4 ⟨rfl, hb4⟩
  have h11 := Box.new w4 false 0
  have A11 := bal (Below.refl _ w4) (.cells #[.bool false, .int .i64 0] 24)
  have h94 := (h92.later hb4).later A11
  have h74 := (h72.later hb4).later A11
  have hb5 := Below.chain (Below.chain hb3 hb4) A11
  clear h92 h72 hb3 A9
  go_wp2_with fail
  generalize w4.alloc (.cells #[.bool false, .int .i64 0] 24) = w5 at *
  refine (hP3 _).mono ?_
  rintro e w6 ⟨rfl, hb6⟩
  have h13 := Box.new w6 false 0
  have A13 := bal (Below.refl _ w6) (.cells #[.bool false, .int .i64 0] 24)
  have h9 := (h94.later hb6).later A13
  have h7 := (h74.later hb6).later A13
  have h11' := (h11.later hb6).later A13
  have hb := Below.chain (Below.chain hb5 hb6) A13
  clear h94 h74 h11 hb5 A11
  obtain ⟨x0, x1, _, _⟩ := id h7
  obtain ⟨y0, y1, _, _⟩ := id h9
  obtain ⟨z0, z1, _, _⟩ := id h11'
  obtain ⟨q0, q1, _, _⟩ := id h13
  go_wp2_with fail
  generalize w6.alloc (.cells #[.bool false, .int .i64 0] 24) = w1 at *
  have HDD : Hid _ := hd
  clear hd
  go_loop [15, 16] (fun d i => ∃ k : Nat, k ≤ T.length ∧ i = .int .i64 k ∧ d = .bool (hasDot (T.take k))) (fun _ i => T.length - (intOf i).toNat)
  case atStart => exact ⟨0, by omega, rfl, rfl⟩
  case round =>
    obtain ⟨k, hk, rfl, rfl⟩ := hrel
    by_cases hlt : k < T.length
    · have hbkk := ba_lt hlt
      have HS : Hid _ := dot_next hlt
      cases hc : hasDot (T.take k) with
      | true =>
        have HC : Hid _ := hc
        clear hc
        go_wp2_with fail
        go_round
        case rel => exact ⟨k + 1, by omega, by go_num, by rw [HS.out, HC.out]; rfl⟩
        case measure => simp [intOf]; omega
      | false =>
        have HC : Hid _ := hc
        clear hc
        by_cases h46 : (((⟨T.toArray⟩ : ByteArray)[k]'hbkk).toNat : Int) = 46
        · have h46' : Hid _ := h46
          have hb46 : ((((⟨T.toArray⟩ : ByteArray)[k]'hbkk).toNat : Int) == 46) = true := beq_iff_eq.2 h46
          clear h46
          go_wp2_with fail
          go_round
          case rel => exact ⟨k + 1, by omega, by go_num, by rw [HS.out, HC.out, h46'.out]; rfl⟩
          case measure => simp [intOf]; omega
        · have hb46 : ((((⟨T.toArray⟩ : ByteArray)[k]'hbkk).toNat : Int) == 46) = false := beq_eq_false_iff_ne.2 h46
          have H46 : Hid _ := hb46
          go_wp2_with fail
          go_round
          case rel => exact ⟨k + 1, by omega, by go_num, by rw [HS.out, HC.out, H46.out]; rfl⟩
          case measure => simp [intOf]; omega
    · have ek : hasDot (T.take k) = false := by rw [List.take_of_length_le (by omega)]; exact HDD.out
      rw [ek]
      clear ek
      have hr3 : ((r : Int) != 0) = false := by rw [bne_eq_false_iff_eq]; have := HR0.out; omega
      go_upto_region 17 with fail
      have m0 := h7.at0
      have m1 := h7.at1
      have m2 := h11'.at0
      have m3 := h11'.at1
      refine wp_region_noPanic ?_
      refine wp_region_held_drew (S := fun W => Below w1.heap.size w1 W) (by kernel_rfl) ?_ (fun _ => ?_)
      · exact (Below.refl _ _).drew
      have B2 : Below w1.heap.size w1 w1.drew := (Below.refl _ _).drew
      generalize w1.drew = w2' at *
      refine take_at 0 (some 96) (.int .i64 20) rfl rfl (by kernel_rfl) (by kernel_rfl) (by kernel_rfl) (fun _ _ _ h => h) (by rfl) (fun W hSw => by go_simp) B2 ?_
      simp only [Act.put, List.setIfInBounds_toArray, List.set_cons_zero, List.set_cons_succ]
      refine take_at 1 (some 97) (.bool true) rfl rfl (by kernel_rfl) (by kernel_rfl) (by kernel_rfl) (fun _ _ _ h => h) (by rfl) (fun W hSw => by go_simp) B2 ?_
      simp only [Act.put, List.setIfInBounds_toArray, List.set_cons_zero, List.set_cons_succ]
      refine take_at 2 (some 98) (.bool true) rfl rfl (by kernel_rfl) (by kernel_rfl) (by kernel_rfl) (fun _ _ _ h => h) (by rfl) (fun W hSw => by go_simp) B2 ?_
      simp only [Act.put, List.setIfInBounds_toArray, List.set_cons_zero, List.set_cons_succ]
      refine skip_at 3 (some 99) rfl rfl (by kernel_rfl) (by kernel_rfl) (by kernel_rfl) (fun _ _ _ h => h) (by rfl) B2 ?_
      simp only [Act.put, List.setIfInBounds_toArray, List.set_cons_zero, List.set_cons_succ]
      refine skip_at 4 (some 100) rfl rfl (by kernel_rfl) (by kernel_rfl) (by kernel_rfl) (fun _ _ _ h => h) (by rfl) B2 ?_
      simp only [Act.put, List.setIfInBounds_toArray, List.set_cons_zero, List.set_cons_succ]
      refine skip_at 5 (some 101) rfl rfl (by kernel_rfl) (by kernel_rfl) (by kernel_rfl) (fun _ _ _ h => h) (by rfl) B2 ?_
      simp only [Act.put, List.setIfInBounds_toArray, List.set_cons_zero, List.set_cons_succ]
      refine skip_at 6 (some 102) rfl rfl (by kernel_rfl) (by kernel_rfl) (by kernel_rfl) (fun _ _ _ h => h) (by rfl) B2 ?_
      simp only [Act.put, List.setIfInBounds_toArray, List.set_cons_zero, List.set_cons_succ]
      refine skip_at 7 (some 103) rfl rfl (by kernel_rfl) (by kernel_rfl) (by kernel_rfl) (fun _ _ _ h => h) (by rfl) B2 ?_
      simp only [Act.put, List.setIfInBounds_toArray, List.set_cons_zero, List.set_cons_succ]
      refine skip_at 8 (some 104) rfl rfl (by kernel_rfl) (by kernel_rfl) (by kernel_rfl) (fun _ _ _ h => h) (by rfl) B2 ?_
      simp only [Act.put, List.setIfInBounds_toArray, List.set_cons_zero, List.set_cons_succ]
      refine take_at 9 (some 105) (.bool true) rfl rfl (by kernel_rfl) (by kernel_rfl) (by kernel_rfl) (fun _ _ _ h => h) (by rfl) (fun W hSw => by go_simp) B2 ?_
      simp only [Act.put, List.setIfInBounds_toArray, List.set_cons_zero, List.set_cons_succ]
      refine take_at 10 (some 106) (.bool true) rfl rfl (by kernel_rfl) (by kernel_rfl) (by kernel_rfl) (fun _ _ _ h => h) (by rfl) (fun W hSw => by go_simp) B2 ?_
      simp only [Act.put, List.setIfInBounds_toArray, List.set_cons_zero, List.set_cons_succ]
      refine skip_at 11 (some 107) rfl rfl (by kernel_rfl) (by kernel_rfl) (by kernel_rfl) (fun _ _ _ h => h) (by rfl) B2 ?_
      simp only [Act.put, List.setIfInBounds_toArray, List.set_cons_zero, List.set_cons_succ]
      refine skip_at 12 (some 108) rfl rfl (by kernel_rfl) (by kernel_rfl) (by kernel_rfl) (fun _ _ _ h => h) (by rfl) B2 ?_
      simp only [Act.put, List.setIfInBounds_toArray, List.set_cons_zero, List.set_cons_succ]
      refine skip_at 13 (some 109) rfl rfl (by kernel_rfl) (by kernel_rfl) (by kernel_rfl) (fun _ _ _ h => h) (by rfl) B2 ?_
      simp only [Act.put, List.setIfInBounds_toArray, List.set_cons_zero, List.set_cons_succ]
      refine skip_at 14 (some 110) rfl rfl (by kernel_rfl) (by kernel_rfl) (by kernel_rfl) (fun _ _ _ h => h) (by rfl) B2 ?_
      simp only [Act.put, List.setIfInBounds_toArray, List.set_cons_zero, List.set_cons_succ]
      refine skip_at 15 (some 111) rfl rfl (by kernel_rfl) (by kernel_rfl) (by kernel_rfl) (fun _ _ _ h => h) (by rfl) B2 ?_
      simp only [Act.put, List.setIfInBounds_toArray, List.set_cons_zero, List.set_cons_succ]
      refine skip_at 16 (some 112) rfl rfl (by kernel_rfl) (by kernel_rfl) (by kernel_rfl) (fun _ _ _ h => h) (by rfl) B2 ?_
      simp only [Act.put, List.setIfInBounds_toArray, List.set_cons_zero, List.set_cons_succ]
      refine skip_at 17 (some 113) rfl rfl (by kernel_rfl) (by kernel_rfl) (by kernel_rfl) (fun _ _ _ h => h) (by rfl) B2 ?_
      simp only [Act.put, List.setIfInBounds_toArray, List.set_cons_zero, List.set_cons_succ]
      refine skip_at 18 (some 114) rfl rfl (by kernel_rfl) (by kernel_rfl) (by kernel_rfl) (fun _ _ _ h => h) (by rfl) B2 ?_
      simp only [Act.put, List.setIfInBounds_toArray, List.set_cons_zero, List.set_cons_succ]
      refine skip_at 19 (some 115) rfl rfl (by kernel_rfl) (by kernel_rfl) (by kernel_rfl) (fun _ _ _ h => h) (by rfl) B2 ?_
      simp only [Act.put, List.setIfInBounds_toArray, List.set_cons_zero, List.set_cons_succ]
      refine take_at 20 (some 116) (.bool true) rfl rfl (by kernel_rfl) (by kernel_rfl) (by kernel_rfl) (fun _ _ _ h => h) (by rfl) (fun W hSw => by go_simp) B2 ?_
      simp only [Act.put, List.setIfInBounds_toArray, List.set_cons_zero, List.set_cons_succ]
      refine take_at 21 (some 6) (.bool true) rfl rfl (by kernel_rfl) (by kernel_rfl) (by kernel_rfl) (fun _ _ _ h => h) (by rfl) (fun W hSw => by go_simp) B2 ?_
      simp only [Act.put, List.setIfInBounds_toArray, List.set_cons_zero, List.set_cons_succ]
      refine wpAnyH_done (by kernel_rfl) ?_ _
      refine NoPanic.normal ?_
      go_wp2
      go_ret
      exact ⟨rfl, Below.chain hb B2⟩
set_option maxRecDepth 20000 in
set_option maxHeartbeats 4000000 in
theorem texts_m_dot_true (A p r : Nat) (v : Int) (T T2 T3 : List UInt8) (hA : A < 4294967296) (hp : p < 4294967296) (hr : p % 1000000 = r) (hr0 : ¬ r = 0) (hv : v = -((A * 1000000 + r : Nat) : Int)) (hl0 : 1 ≤ T.length) (hl1 : T.length ≤ 20)
    (hd : hasDot T = true) (hlast : T.getLast? ≠ some 48) (w : World) (ht : Tab Tryd.prog w)
    (ha1 : (⟨T.toArray⟩ : ByteArray) ++ ⟨#[48]⟩ = ⟨T2.toArray⟩) (ha2 : (⟨#[48]⟩ : ByteArray) ++ ⟨T.toArray⟩ = ⟨T3.toArray⟩)
    (hpr : ∀ W, Tab Tryd.prog W → Calls Tryd.prog 14 #[.agg #[.bool false, .int .i64 v]] W fun e w' => e = .returned (.string ⟨T.toArray⟩) ∧ Below W.heap.size W w')
    (hP1 : ∀ W, Calls Tryd.prog 15 #[.string ⟨T.toArray⟩] W fun e w' => e = .returned (.tuple #[.agg #[.bool false, .int .i64 v], .int .i64 0]) ∧ Below W.heap.size W w')
    (hP2 : ∀ W, Calls Tryd.prog 15 #[.string ⟨T2.toArray⟩] W fun e w' => e = .returned (.tuple #[.agg #[.bool false, .int .i64 v], .int .i64 0]) ∧ Below W.heap.size W w')
    (hP3 : ∀ W, Calls Tryd.prog 15 #[.string ⟨T3.toArray⟩] W fun e w' => e = .returned (.tuple #[.agg #[.bool false, .int .i64 0], .int .i64 20]) ∧ Below W.heap.size W w')
    
     :
    Calls Tryd.prog 4 #[.int .u32 (A : Int), .int .u32 (p : Int), .bool true] w fun e w' => e = .returned (.bool true) ∧ Below w.heap.size w w' := by
  have hpr' : (p : Int) % 1000000 = (r : Int) := by omega
  have hr1 : r < 1000000 := by omega
  have HR0 : Hid _ := hr0
  clear hr0
  have HR : Hid _ := hr
  have HV : Hid _ := hv
  clear hr hv
  go_enter Tryd.func4, Tryd.ntmps4
  go_wp2_with fail
  refine (known_any _ ht).mono ?_
  rintro e wk ⟨rfl, hbk⟩
  have ecn : fNeg (cnt false ((A : Int) * 1000000 + (r : Int))) = some v := by
    rw [ex_cnt _ (by omega)]
    show some _ = some v
    exact congrArg some (by have := HV.out; omega)
  have hneg : ∀ W, Calls Tryd.prog 8 #[.agg #[.bool false, .int .i64 ((A : Int) * 1000000 + (r : Int))]] W fun e w' => e = .returned (.agg #[.bool false, .int .i64 v]) ∧ Below W.heap.size W w' := fun W => by
    have h := neg_any false ((A : Int) * 1000000 + (r : Int)) W (by omega) (by omega)
    rw [ecn] at h
    exact h
  clear ecn
  have h70 := Box.new wk false ((A : Int) * 1000000 + (r : Int))
  have A7 := bal (Below.refl _ wk) (.cells #[.bool false, .int .i64 ((A : Int) * 1000000 + (r : Int))] 24)
  go_wp2_with fail
  generalize wk.alloc (.cells #[.bool false, .int .i64 ((A : Int) * 1000000 + (r : Int))] 24) = w0 at *
  refine (hneg _).mono ?_
  rintro e wn ⟨rfl, hbn⟩
  have h71 := h70.later hbn
  have hb71 := Below.chain (Below.chain hbk A7) hbn
  have h7 := h71.put (p := false) (m := v)
  have hb7 := put2 hb71 (b := wk.heap.size) hbk.size false v
  have k0 := h71.c0
  have k1 := h71.c1
  have k2 := h71.f0
  have k3 := h71.f1
  obtain ⟨x0, x1, _, _⟩ := id h7
  go_wp2_with fail
  generalize ((wn.setCell ⟨wk.heap.size, 0, none⟩ (.bool false)).setCell ⟨wk.heap.size, 1, none⟩ (.int .i64 v)) = w00 at *
  clear h71 hb71 h70 A7 hbn k0 k1 k2 k3 hneg
  refine (hpr _ (ht.later hb7)).mono ?_
  rintro e wp ⟨rfl, hbp⟩
  have h7p := h7.later hbp
  have hbP := Below.chain hb7 hbp
  clear x0 x1 h7 hb7 hbp
  go_wp2_with fail
  refine (hP1 _).mono ?_
  rintro e w2 ⟨rfl, hb2⟩
  have h92 := Box.new w2 false v
  have A9 := bal (Below.refl _ w2) (.cells #[.bool false, .int .i64 v] 24)
  have h72 := (h7p.later hb2).later A9
  have hb3 := Below.chain (Below.chain hbP hb2) A9
  clear h7p hbP
  go_wp2_with fail
  generalize w2.alloc (.cells #[.bool false, .int .i64 v] 24) = w3 at *
  refine (hP2 _).mono ?_
  rintro e w4 ⟨rfl, hb4⟩
  have h11 := Box.new w4 false v
  have A11 := bal (Below.refl _ w4) (.cells #[.bool false, .int .i64 v] 24)
  have h94 := (h92.later hb4).later A11
  have h74 := (h72.later hb4).later A11
  have hb5 := Below.chain (Below.chain hb3 hb4) A11
  clear h92 h72 hb3 A9
  go_wp2_with fail
  generalize w4.alloc (.cells #[.bool false, .int .i64 v] 24) = w5 at *
  refine (hP3 _).mono ?_
  rintro e w6 ⟨rfl, hb6⟩
  have h13 := Box.new w6 false 0
  have A13 := bal (Below.refl _ w6) (.cells #[.bool false, .int .i64 0] 24)
  have h9 := (h94.later hb6).later A13
  have h7 := (h74.later hb6).later A13
  have h11' := (h11.later hb6).later A13
  have hb := Below.chain (Below.chain hb5 hb6) A13
  clear h94 h74 h11 hb5 A11
  obtain ⟨x0, x1, _, _⟩ := id h7
  obtain ⟨y0, y1, _, _⟩ := id h9
  obtain ⟨z0, z1, _, _⟩ := id h11'
  obtain ⟨q0, q1, _, _⟩ := id h13
  go_wp2_with fail
  generalize w6.alloc (.cells #[.bool false, .int .i64 0] 24) = w1 at *
  have HDD : Hid _ := hd
  clear hd
  go_loop [15, 16] (fun d i => ∃ k : Nat, k ≤ T.length ∧ i = .int .i64 k ∧ d = .bool (hasDot (T.take k))) (fun _ i => T.length - (intOf i).toNat)
  case atStart => exact ⟨0, by omega, rfl, rfl⟩
  case round =>
    obtain ⟨k, hk, rfl, rfl⟩ := hrel
    by_cases hlt : k < T.length
    · have hbkk := ba_lt hlt
      have HS : Hid _ := dot_next hlt
      cases hc : hasDot (T.take k) with
      | true =>
        have HC : Hid _ := hc
        clear hc
        go_wp2_with fail
        go_round
        case rel => exact ⟨k + 1, by omega, by go_num, by rw [HS.out, HC.out]; rfl⟩
        case measure => simp [intOf]; omega
      | false =>
        have HC : Hid _ := hc
        clear hc
        by_cases h46 : (((⟨T.toArray⟩ : ByteArray)[k]'hbkk).toNat : Int) = 46
        · have h46' : Hid _ := h46
          have hb46 : ((((⟨T.toArray⟩ : ByteArray)[k]'hbkk).toNat : Int) == 46) = true := beq_iff_eq.2 h46
          clear h46
          go_wp2_with fail
          go_round
          case rel => exact ⟨k + 1, by omega, by go_num, by rw [HS.out, HC.out, h46'.out]; rfl⟩
          case measure => simp [intOf]; omega
        · have hb46 : ((((⟨T.toArray⟩ : ByteArray)[k]'hbkk).toNat : Int) == 46) = false := beq_eq_false_iff_ne.2 h46
          have H46 : Hid _ := hb46
          go_wp2_with fail
          go_round
          case rel => exact ⟨k + 1, by omega, by go_num, by rw [HS.out, HC.out, H46.out]; rfl⟩
          case measure => simp [intOf]; omega
    · have ek : hasDot (T.take k) = true := by rw [List.take_of_length_le (by omega)]; exact HDD.out
      rw [ek]
      clear ek
      have hll : T.length - 1 < T.length := by omega
      have hbl := ba_lt hll
      have hnl : ((((⟨T.toArray⟩ : ByteArray)[T.length - 1]'hbl).toNat : Int) == 48) = false := by
        exact last_byte hll hlast
      have hr2 : ((r : Int) == 0) = false := beq_eq_false_iff_ne.2 (by have h0 : ¬ r = 0 := HR0.out; omega)
      have hr3 : ((r : Int) != 0) = true := by rw [bne_iff_ne]; have h0 : ¬ r = 0 := HR0.out; omega
      go_upto_region 17 with fail
      have m0 := h7.at0
      have m1 := h7.at1
      have m2 := h11'.at0
      have m3 := h11'.at1
      refine wp_region_noPanic ?_
      refine wp_region_held_drew (S := fun W => Below w1.heap.size w1 W) (by kernel_rfl) ?_ (fun _ => ?_)
      · exact (Below.refl _ _).drew
      have B2 : Below w1.heap.size w1 w1.drew := (Below.refl _ _).drew
      generalize w1.drew = w2' at *
      refine take_at 0 (some 96) (.int .i64 0) rfl rfl (by kernel_rfl) (by kernel_rfl) (by kernel_rfl) (fun _ _ _ h => h) (by rfl) (fun W hSw => by go_simp) B2 ?_
      simp only [Act.put, List.setIfInBounds_toArray, List.set_cons_zero, List.set_cons_succ]
      refine take_at 1 (some 97) (.bool false) rfl rfl (by kernel_rfl) (by kernel_rfl) (by kernel_rfl) (fun _ _ _ h => h) (by rfl) (fun W hSw => by go_simp) B2 ?_
      simp only [Act.put, List.setIfInBounds_toArray, List.set_cons_zero, List.set_cons_succ]
      refine take_at 2 (some 98) (.bool false) rfl rfl (by kernel_rfl) (by kernel_rfl) (by kernel_rfl) (fun _ _ _ h => h) (by rfl) (fun W hSw => by go_simp) B2 ?_
      simp only [Act.put, List.setIfInBounds_toArray, List.set_cons_zero, List.set_cons_succ]
      refine take_at 3 (some 99) (.bool true) rfl rfl (by kernel_rfl) (by kernel_rfl) (by kernel_rfl) (fun _ _ _ h => h) (by rfl) (fun W hSw => by go_simp) B2 ?_
      simp only [Act.put, List.setIfInBounds_toArray, List.set_cons_zero, List.set_cons_succ]
      refine take_at 4 (some 100) (.bool true) rfl rfl (by kernel_rfl) (by kernel_rfl) (by kernel_rfl) (fun _ _ _ h => h) (by rfl) (fun W hSw => by go_simp) B2 ?_
      simp only [Act.put, List.setIfInBounds_toArray, List.set_cons_zero, List.set_cons_succ]
      refine take_at 5 (some 101) (.agg #[.bool false, .int .i64 v]) rfl rfl (by kernel_rfl) (by kernel_rfl) (by kernel_rfl) (fun _ _ _ h => h) (by rfl) (fun W hSw => by go_simp) B2 ?_
      simp only [Act.put, List.setIfInBounds_toArray, List.set_cons_zero, List.set_cons_succ]
      refine take_at 6 (some 102) (.agg #[.bool false, .int .i64 v]) rfl rfl (by kernel_rfl) (by kernel_rfl) (by kernel_rfl) (fun _ _ _ h => h) (by rfl) (fun W hSw => by go_simp) B2 ?_
      simp only [Act.put, List.setIfInBounds_toArray, List.set_cons_zero, List.set_cons_succ]
      refine take_at 7 (some 103) (.bool true) rfl rfl (by kernel_rfl) (by kernel_rfl) (by kernel_rfl) (fun _ _ _ h => h) (by rfl) (fun W hSw => by go_simp) B2 ?_
      simp only [Act.put, List.setIfInBounds_toArray, List.set_cons_zero, List.set_cons_succ]
      refine take_at 8 (some 104) (.bool true) rfl rfl (by kernel_rfl) (by kernel_rfl) (by kernel_rfl) (fun _ _ _ h => h) (by rfl) (fun W hSw => by go_simp) B2 ?_
      simp only [Act.put, List.setIfInBounds_toArray, List.set_cons_zero, List.set_cons_succ]
      refine take_at 9 (some 105) (.bool true) rfl rfl (by kernel_rfl) (by kernel_rfl) (by kernel_rfl) (fun _ _ _ h => h) (by rfl) (fun W hSw => by go_simp) B2 ?_
      simp only [Act.put, List.setIfInBounds_toArray, List.set_cons_zero, List.set_cons_succ]
      refine take_at 10 (some 106) (.bool true) rfl rfl (by kernel_rfl) (by kernel_rfl) (by kernel_rfl) (fun _ _ _ h => h) (by rfl) (fun W hSw => by go_simp) B2 ?_
      simp only [Act.put, List.setIfInBounds_toArray, List.set_cons_zero, List.set_cons_succ]
      refine skip_at 11 (some 107) rfl rfl (by kernel_rfl) (by kernel_rfl) (by kernel_rfl) (fun _ _ _ h => h) (by rfl) B2 ?_
      simp only [Act.put, List.setIfInBounds_toArray, List.set_cons_zero, List.set_cons_succ]
      refine skip_at 12 (some 108) rfl rfl (by kernel_rfl) (by kernel_rfl) (by kernel_rfl) (fun _ _ _ h => h) (by rfl) B2 ?_
      simp only [Act.put, List.setIfInBounds_toArray, List.set_cons_zero, List.set_cons_succ]
      refine skip_at 13 (some 109) rfl rfl (by kernel_rfl) (by kernel_rfl) (by kernel_rfl) (fun _ _ _ h => h) (by rfl) B2 ?_
      simp only [Act.put, List.setIfInBounds_toArray, List.set_cons_zero, List.set_cons_succ]
      refine skip_at 14 (some 110) rfl rfl (by kernel_rfl) (by kernel_rfl) (by kernel_rfl) (fun _ _ _ h => h) (by rfl) B2 ?_
      simp only [Act.put, List.setIfInBounds_toArray, List.set_cons_zero, List.set_cons_succ]
      refine skip_at 15 (some 111) rfl rfl (by kernel_rfl) (by kernel_rfl) (by kernel_rfl) (fun _ _ _ h => h) (by rfl) B2 ?_
      simp only [Act.put, List.setIfInBounds_toArray, List.set_cons_zero, List.set_cons_succ]
      refine skip_at 16 (some 112) rfl rfl (by kernel_rfl) (by kernel_rfl) (by kernel_rfl) (fun _ _ _ h => h) (by rfl) B2 ?_
      simp only [Act.put, List.setIfInBounds_toArray, List.set_cons_zero, List.set_cons_succ]
      refine skip_at 17 (some 113) rfl rfl (by kernel_rfl) (by kernel_rfl) (by kernel_rfl) (fun _ _ _ h => h) (by rfl) B2 ?_
      simp only [Act.put, List.setIfInBounds_toArray, List.set_cons_zero, List.set_cons_succ]
      refine skip_at 18 (some 114) rfl rfl (by kernel_rfl) (by kernel_rfl) (by kernel_rfl) (fun _ _ _ h => h) (by rfl) B2 ?_
      simp only [Act.put, List.setIfInBounds_toArray, List.set_cons_zero, List.set_cons_succ]
      refine skip_at 19 (some 115) rfl rfl (by kernel_rfl) (by kernel_rfl) (by kernel_rfl) (fun _ _ _ h => h) (by rfl) B2 ?_
      simp only [Act.put, List.setIfInBounds_toArray, List.set_cons_zero, List.set_cons_succ]
      refine take_at 20 (some 116) (.bool true) rfl rfl (by kernel_rfl) (by kernel_rfl) (by kernel_rfl) (fun _ _ _ h => h) (by rfl) (fun W hSw => by go_simp) B2 ?_
      simp only [Act.put, List.setIfInBounds_toArray, List.set_cons_zero, List.set_cons_succ]
      refine take_at 21 (some 6) (.bool true) rfl rfl (by kernel_rfl) (by kernel_rfl) (by kernel_rfl) (fun _ _ _ h => h) (by rfl) (fun W hSw => by go_simp) B2 ?_
      simp only [Act.put, List.setIfInBounds_toArray, List.set_cons_zero, List.set_cons_succ]
      refine wpAnyH_done (by kernel_rfl) ?_ _
      refine NoPanic.normal ?_
      go_wp2
      go_ret
      exact ⟨rfl, Below.chain hb B2⟩
set_option maxRecDepth 20000 in
set_option maxHeartbeats 4000000 in
theorem texts_m_bare_false (A p r : Nat) (v v10 : Int) (T T2 T3 : List UInt8) (hA : A < 4294967296) (hp : p < 4294967296) (hr : p % 1000000 = r) (hr0 : r = 0) (hv : v = -((A * 1000000 + r : Nat) : Int)) (hl0 : 1 ≤ T.length) (hl1 : T.length ≤ 20)
    (hd : hasDot T = false) (w : World) (ht : Tab Tryd.prog w)
    (ha1 : (⟨T.toArray⟩ : ByteArray) ++ ⟨#[48]⟩ = ⟨T2.toArray⟩) (ha2 : (⟨#[48]⟩ : ByteArray) ++ ⟨T.toArray⟩ = ⟨T3.toArray⟩)
    (hpr : ∀ W, Tab Tryd.prog W → Calls Tryd.prog 14 #[.agg #[.bool false, .int .i64 v]] W fun e w' => e = .returned (.string ⟨T.toArray⟩) ∧ Below W.heap.size W w')
    (hP1 : ∀ W, Calls Tryd.prog 15 #[.string ⟨T.toArray⟩] W fun e w' => e = .returned (.tuple #[.agg #[.bool false, .int .i64 v], .int .i64 0]) ∧ Below W.heap.size W w')
    (hP2 : ∀ W, Calls Tryd.prog 15 #[.string ⟨T2.toArray⟩] W fun e w' => e = .returned (.tuple #[.agg #[.bool false, .int .i64 v10], .int .i64 0]) ∧ Below W.heap.size W w')
    (hP3 : ∀ W, Calls Tryd.prog 15 #[.string ⟨T3.toArray⟩] W fun e w' => e = .returned (.tuple #[.agg #[.bool false, .int .i64 0], .int .i64 20]) ∧ Below W.heap.size W w')
    (hTen : ∀ W, Calls Tryd.prog 13 #[.int .i64 10] W fun e w' => e = .returned (.agg #[.bool false, .int .i64 10000000]) ∧ Below W.heap.size W w')
    (hMul : ∀ W, Calls Tryd.prog 10 #[.agg #[.bool false, .int .i64 v], .agg #[.bool false, .int .i64 10000000]] W fun e w' => e = .returned (.agg #[.bool false, .int .i64 v10]) ∧ Below W.heap.size W w') :
    Calls Tryd.prog 4 #[.int .u32 (A : Int), .int .u32 (p : Int), .bool true] w fun e w' => e = .returned (.bool true) ∧ Below w.heap.size w w' := by
  have hpr' : (p : Int) % 1000000 = (r : Int) := by omega
  have hr1 : r < 1000000 := by omega
  have HR0 : Hid _ := hr0
  clear hr0
  have HR : Hid _ := hr
  have HV : Hid _ := hv
  clear hr hv
  go_enter Tryd.func4, Tryd.ntmps4
  go_wp2_with fail
  refine (known_any _ ht).mono ?_
  rintro e wk ⟨rfl, hbk⟩
  have ecn : fNeg (cnt false ((A : Int) * 1000000 + (r : Int))) = some v := by
    rw [ex_cnt _ (by omega)]
    show some _ = some v
    exact congrArg some (by have := HV.out; omega)
  have hneg : ∀ W, Calls Tryd.prog 8 #[.agg #[.bool false, .int .i64 ((A : Int) * 1000000 + (r : Int))]] W fun e w' => e = .returned (.agg #[.bool false, .int .i64 v]) ∧ Below W.heap.size W w' := fun W => by
    have h := neg_any false ((A : Int) * 1000000 + (r : Int)) W (by omega) (by omega)
    rw [ecn] at h
    exact h
  clear ecn
  have h70 := Box.new wk false ((A : Int) * 1000000 + (r : Int))
  have A7 := bal (Below.refl _ wk) (.cells #[.bool false, .int .i64 ((A : Int) * 1000000 + (r : Int))] 24)
  go_wp2_with fail
  generalize wk.alloc (.cells #[.bool false, .int .i64 ((A : Int) * 1000000 + (r : Int))] 24) = w0 at *
  refine (hneg _).mono ?_
  rintro e wn ⟨rfl, hbn⟩
  have h71 := h70.later hbn
  have hb71 := Below.chain (Below.chain hbk A7) hbn
  have h7 := h71.put (p := false) (m := v)
  have hb7 := put2 hb71 (b := wk.heap.size) hbk.size false v
  have k0 := h71.c0
  have k1 := h71.c1
  have k2 := h71.f0
  have k3 := h71.f1
  obtain ⟨x0, x1, _, _⟩ := id h7
  go_wp2_with fail
  generalize ((wn.setCell ⟨wk.heap.size, 0, none⟩ (.bool false)).setCell ⟨wk.heap.size, 1, none⟩ (.int .i64 v)) = w00 at *
  clear h71 hb71 h70 A7 hbn k0 k1 k2 k3 hneg
  refine (hpr _ (ht.later hb7)).mono ?_
  rintro e wp ⟨rfl, hbp⟩
  have h7p := h7.later hbp
  have hbP := Below.chain hb7 hbp
  clear x0 x1 h7 hb7 hbp
  go_wp2_with fail
  refine (hP1 _).mono ?_
  rintro e w2 ⟨rfl, hb2⟩
  have h92 := Box.new w2 false v
  have A9 := bal (Below.refl _ w2) (.cells #[.bool false, .int .i64 v] 24)
  have h72 := (h7p.later hb2).later A9
  have hb3 := Below.chain (Below.chain hbP hb2) A9
  clear h7p hbP
  go_wp2_with fail
  generalize w2.alloc (.cells #[.bool false, .int .i64 v] 24) = w3 at *
  refine (hP2 _).mono ?_
  rintro e w4 ⟨rfl, hb4⟩
  have h11 := Box.new w4 false v10
  have A11 := bal (Below.refl _ w4) (.cells #[.bool false, .int .i64 v10] 24)
  have h94 := (h92.later hb4).later A11
  have h74 := (h72.later hb4).later A11
  have hb5 := Below.chain (Below.chain hb3 hb4) A11
  clear h92 h72 hb3 A9
  go_wp2_with fail
  generalize w4.alloc (.cells #[.bool false, .int .i64 v10] 24) = w5 at *
  refine (hP3 _).mono ?_
  rintro e w6 ⟨rfl, hb6⟩
  have h13 := Box.new w6 false 0
  have A13 := bal (Below.refl _ w6) (.cells #[.bool false, .int .i64 0] 24)
  have h9 := (h94.later hb6).later A13
  have h7 := (h74.later hb6).later A13
  have h11' := (h11.later hb6).later A13
  have hb := Below.chain (Below.chain hb5 hb6) A13
  clear h94 h74 h11 hb5 A11
  obtain ⟨x0, x1, _, _⟩ := id h7
  obtain ⟨y0, y1, _, _⟩ := id h9
  obtain ⟨z0, z1, _, _⟩ := id h11'
  obtain ⟨q0, q1, _, _⟩ := id h13
  go_wp2_with fail
  generalize w6.alloc (.cells #[.bool false, .int .i64 0] 24) = w1 at *
  have HDD : Hid _ := hd
  clear hd
  go_loop [15, 16] (fun d i => ∃ k : Nat, k ≤ T.length ∧ i = .int .i64 k ∧ d = .bool (hasDot (T.take k))) (fun _ i => T.length - (intOf i).toNat)
  case atStart => exact ⟨0, by omega, rfl, rfl⟩
  case round =>
    obtain ⟨k, hk, rfl, rfl⟩ := hrel
    by_cases hlt : k < T.length
    · have hbkk := ba_lt hlt
      have HS : Hid _ := dot_next hlt
      cases hc : hasDot (T.take k) with
      | true =>
        have HC : Hid _ := hc
        clear hc
        go_wp2_with fail
        go_round
        case rel => exact ⟨k + 1, by omega, by go_num, by rw [HS.out, HC.out]; rfl⟩
        case measure => simp [intOf]; omega
      | false =>
        have HC : Hid _ := hc
        clear hc
        by_cases h46 : (((⟨T.toArray⟩ : ByteArray)[k]'hbkk).toNat : Int) = 46
        · have h46' : Hid _ := h46
          have hb46 : ((((⟨T.toArray⟩ : ByteArray)[k]'hbkk).toNat : Int) == 46) = true := beq_iff_eq.2 h46
          clear h46
          go_wp2_with fail
          go_round
          case rel => exact ⟨k + 1, by omega, by go_num, by rw [HS.out, HC.out, h46'.out]; rfl⟩
          case measure => simp [intOf]; omega
        · have hb46 : ((((⟨T.toArray⟩ : ByteArray)[k]'hbkk).toNat : Int) == 46) = false := beq_eq_false_iff_ne.2 h46
          have H46 : Hid _ := hb46
          go_wp2_with fail
          go_round
          case rel => exact ⟨k + 1, by omega, by go_num, by rw [HS.out, HC.out, H46.out]; rfl⟩
          case measure => simp [intOf]; omega
    · have ek : hasDot (T.take k) = false := by rw [List.take_of_length_le (by omega)]; exact HDD.out
      rw [ek]
      clear ek
      have hr3 : ((r : Int) != 0) = false := by rw [bne_eq_false_iff_eq]; have := HR0.out; omega
      go_upto_region 17 with fail
      have m0 := h7.at0
      have m1 := h7.at1
      have m2 := h11'.at0
      have m3 := h11'.at1
      refine wp_region_noPanic ?_
      refine wp_region_held_drew (S := fun W => Below w1.heap.size w1 W) (by kernel_rfl) ?_ (fun _ => ?_)
      · exact (Below.refl _ _).drew
      have B2 : Below w1.heap.size w1 w1.drew := (Below.refl _ _).drew
      generalize w1.drew = w2' at *
      refine take_at 0 (some 96) (.int .i64 0) rfl rfl (by kernel_rfl) (by kernel_rfl) (by kernel_rfl) (fun _ _ _ h => h) (by rfl) (fun W hSw => by go_simp) B2 ?_
      simp only [Act.put, List.setIfInBounds_toArray, List.set_cons_zero, List.set_cons_succ]
      refine take_at 1 (some 97) (.bool false) rfl rfl (by kernel_rfl) (by kernel_rfl) (by kernel_rfl) (fun _ _ _ h => h) (by rfl) (fun W hSw => by go_simp) B2 ?_
      simp only [Act.put, List.setIfInBounds_toArray, List.set_cons_zero, List.set_cons_succ]
      refine take_at 2 (some 98) (.bool false) rfl rfl (by kernel_rfl) (by kernel_rfl) (by kernel_rfl) (fun _ _ _ h => h) (by rfl) (fun W hSw => by go_simp) B2 ?_
      simp only [Act.put, List.setIfInBounds_toArray, List.set_cons_zero, List.set_cons_succ]
      refine take_at 3 (some 99) (.bool false) rfl rfl (by kernel_rfl) (by kernel_rfl) (by kernel_rfl) (fun _ _ _ h => h) (by rfl) (fun W hSw => by go_simp) B2 ?_
      simp only [Act.put, List.setIfInBounds_toArray, List.set_cons_zero, List.set_cons_succ]
      refine take_at 4 (some 100) (.bool false) rfl rfl (by kernel_rfl) (by kernel_rfl) (by kernel_rfl) (fun _ _ _ h => h) (by rfl) (fun W hSw => by go_simp) B2 ?_
      simp only [Act.put, List.setIfInBounds_toArray, List.set_cons_zero, List.set_cons_succ]
      refine skip_at 5 (some 101) rfl rfl (by kernel_rfl) (by kernel_rfl) (by kernel_rfl) (fun _ _ _ h => h) (by rfl) B2 ?_
      simp only [Act.put, List.setIfInBounds_toArray, List.set_cons_zero, List.set_cons_succ]
      refine skip_at 6 (some 102) rfl rfl (by kernel_rfl) (by kernel_rfl) (by kernel_rfl) (fun _ _ _ h => h) (by rfl) B2 ?_
      simp only [Act.put, List.setIfInBounds_toArray, List.set_cons_zero, List.set_cons_succ]
      refine skip_at 7 (some 103) rfl rfl (by kernel_rfl) (by kernel_rfl) (by kernel_rfl) (fun _ _ _ h => h) (by rfl) B2 ?_
      simp only [Act.put, List.setIfInBounds_toArray, List.set_cons_zero, List.set_cons_succ]
      refine take_at 8 (some 104) (.bool false) rfl rfl (by kernel_rfl) (by kernel_rfl) (by kernel_rfl) (fun _ _ _ h => h) (by rfl) (fun W hSw => by go_simp) B2 ?_
      simp only [Act.put, List.setIfInBounds_toArray, List.set_cons_zero, List.set_cons_succ]
      refine take_at 9 (some 105) (.bool false) rfl rfl (by kernel_rfl) (by kernel_rfl) (by kernel_rfl) (fun _ _ _ h => h) (by rfl) (fun W hSw => by go_simp) B2 ?_
      simp only [Act.put, List.setIfInBounds_toArray, List.set_cons_zero, List.set_cons_succ]
      refine take_at 10 (some 106) (.bool false) rfl rfl (by kernel_rfl) (by kernel_rfl) (by kernel_rfl) (fun _ _ _ h => h) (by rfl) (fun W hSw => by go_simp) B2 ?_
      simp only [Act.put, List.setIfInBounds_toArray, List.set_cons_zero, List.set_cons_succ]
      refine take_at 11 (some 107) (.bool false) rfl rfl (by kernel_rfl) (by kernel_rfl) (by kernel_rfl) (fun _ _ _ h => h) (by rfl) (fun W hSw => by go_simp) B2 ?_
      simp only [Act.put, List.setIfInBounds_toArray, List.set_cons_zero, List.set_cons_succ]
      refine take_at 12 (some 108) (.bool true) rfl rfl (by kernel_rfl) (by kernel_rfl) (by kernel_rfl) (fun _ _ _ h => h) (by rfl) (fun W hSw => by go_simp) B2 ?_
      simp only [Act.put, List.setIfInBounds_toArray, List.set_cons_zero, List.set_cons_succ]
      refine take_at 13 (some 109) (.bool true) rfl rfl (by kernel_rfl) (by kernel_rfl) (by kernel_rfl) (fun _ _ _ h => h) (by rfl) (fun W hSw => by go_simp) B2 ?_
      simp only [Act.put, List.setIfInBounds_toArray, List.set_cons_zero, List.set_cons_succ]
      refine take_at 14 (some 110) (.agg #[.bool false, .int .i64 v10]) rfl rfl (by kernel_rfl) (by kernel_rfl) (by kernel_rfl) (fun _ _ _ h => h) (by rfl) (fun W hSw => by go_simp) B2 ?_
      simp only [Act.put, List.setIfInBounds_toArray, List.set_cons_zero, List.set_cons_succ]
      refine take_at 15 (some 111) (.agg #[.bool false, .int .i64 v]) rfl rfl (by kernel_rfl) (by kernel_rfl) (by kernel_rfl) (fun _ _ _ h => h) (by rfl) (fun W hSw => by go_simp) B2 ?_
      simp only [Act.put, List.setIfInBounds_toArray, List.set_cons_zero, List.set_cons_succ]
      refine wpAnyH_ready (rs := [16]) (by kernel_rfl) (by simp) ?_
      refine AllReadyH.cons rfl (fun K hK => ?_) AllReadyH.nil
      go_simp
      refine (hTen _).mono ?_
      rintro e w11 ⟨rfl, hb11⟩
      have B11 := Below.chain B2 hb11
      refine hK.out _ _ ?_ (fun _ => ?_)
      · exact B11
      clear hK K
      refine wpAnyH_ready (rs := [17]) (by kernel_rfl) (by simp) ?_
      refine AllReadyH.cons rfl (fun K hK => ?_) AllReadyH.nil
      go_simp
      refine (hMul _).mono ?_
      rintro e w12 ⟨rfl, hb12⟩
      have B12 := Below.chain B11 hb12
      refine hK.out _ _ ?_ (fun _ => ?_)
      · exact B12
      clear hK K
      refine take_at 18 (some 114) (.bool true) rfl rfl (by kernel_rfl) (by kernel_rfl) (by kernel_rfl) (fun _ _ _ h => h) (by rfl) (fun W hSw => by go_simp) B12 ?_
      simp only [Act.put, List.setIfInBounds_toArray, List.set_cons_zero, List.set_cons_succ]
      refine take_at 19 (some 115) (.bool true) rfl rfl (by kernel_rfl) (by kernel_rfl) (by kernel_rfl) (fun _ _ _ h => h) (by rfl) (fun W hSw => by go_simp) B12 ?_
      simp only [Act.put, List.setIfInBounds_toArray, List.set_cons_zero, List.set_cons_succ]
      refine take_at 20 (some 116) (.bool true) rfl rfl (by kernel_rfl) (by kernel_rfl) (by kernel_rfl) (fun _ _ _ h => h) (by rfl) (fun W hSw => by go_simp) B12 ?_
      simp only [Act.put, List.setIfInBounds_toArray, List.set_cons_zero, List.set_cons_succ]
      refine take_at 21 (some 6) (.bool true) rfl rfl (by kernel_rfl) (by kernel_rfl) (by kernel_rfl) (fun _ _ _ h => h) (by rfl) (fun W hSw => by go_simp) B12 ?_
      simp only [Act.put, List.setIfInBounds_toArray, List.set_cons_zero, List.set_cons_succ]
      refine wpAnyH_done (by kernel_rfl) ?_ _
      refine NoPanic.normal ?_
      go_wp2
      go_ret
      exact ⟨rfl, Below.chain hb B12⟩
theorem of_ten : fOf 10 = some 10000000 := by decide +kernel
theorem texts_row (x y : Int) (b : Bool) (hx : 0 ≤ x ∧ x ≤ 4294967295) (hy : 0 ≤ y ∧ y ≤ 4294967295) (w : World) (ht : Tab Tryd.prog w) :
    Calls Tryd.prog 4 #[.int .u32 x, .int .u32 y, .bool b] w fun e w' => e = .returned (.bool true) ∧ Below w.heap.size w w' := by
  obtain ⟨A, rfl⟩ := Int.eq_ofNat_of_zero_le hx.1
  obtain ⟨p, rfl⟩ := Int.eq_ofNat_of_zero_le hy.1
  have hA : A < 4294967296 := by omega
  have hp : p < 4294967296 := by omega
  have hr : p % 1000000 < 1000000 := Nat.mod_lt _ (by omega)
  have hV := vOf_V b hA hr
  have hvr := vOf_range b hA hr
  have hbh := behind b hA hr
  have hah := ahead b (W := A) hr
  have hdd := dot_is b (W := A) hr
  have hla := last_isnt b (W := A) hr
  obtain ⟨hl0, hl1⟩ := text_len b hA hr
  have hmt := mul_ten b hA hr
  have hv0 : vOf b A (p % 1000000) = if b = true then -((A * 1000000 + p % 1000000 : Nat) : Int) else ((A * 1000000 + p % 1000000 : Nat) : Int) := rfl
  have hrd := print_read hV
  generalize vOf b A (p % 1000000) = v at *
  have hR : R64 v := ⟨by omega, by omega⟩
  have hcv : cnt false v = some v := ex_cnt _ (by omega)
  have hpr := fun W h => print_any false v W hR h
  rw [hcv] at hpr
  generalize fPrint (some v) = T at *
  have hP1 := fun W => parse_any T W (by omega)
  rw [hrd] at hP1
  have hP2 := fun W => parse_any (T ++ [48]) W (by simp; omega)
  have hP3 := fun W => parse_any (48 :: T) W (by simp; omega)
  rw [hah] at hP3
  have hTen := fun W => of_any 10 W ⟨by decide, by decide⟩
  rw [of_ten] at hTen
  have hMul := fun W => mul_any false false v 10000000 W hR ⟨by decide, by decide⟩
  rw [hcv, ex_cnt 10000000 (by decide), hmt] at hMul
  have ha1 : (⟨T.toArray⟩ : ByteArray) ++ ⟨#[48]⟩ = ⟨(T ++ [48]).toArray⟩ := ba_append T [48]
  have ha2 : (⟨#[48]⟩ : ByteArray) ++ ⟨T.toArray⟩ = ⟨(48 :: T).toArray⟩ := ba_append [48] T
  generalize T ++ [48] = T2 at *
  generalize 48 :: T = T3 at *
  generalize hv10 : v * 10 = v10 at *
  clear hv10 hah hrd hmt hcv hV
  cases b with
  | true =>
    have hv := hv0
    rw [if_pos rfl] at hv
    rcases hbh with h | ⟨h0, h⟩ | ⟨h0, h⟩
    · rw [h] at hP2
      by_cases h0 : p % 1000000 = 0
      · exact texts_m_none_false A p _ v T T2 T3 hA hp rfl h0 hv hl0 hl1 (by rw [hdd]; exact decide_eq_false (by simpa using h0)) w ht ha1 ha2 hpr hP1 hP2 hP3
      · exact texts_m_none_true A p _ v T T2 T3 hA hp rfl h0 hv hl0 hl1 (by rw [hdd]; exact decide_eq_true h0) (hla h0) w ht ha1 ha2 hpr hP1 hP2 hP3
    · rw [h] at hP2
      exact texts_m_dot_true A p _ v T T2 T3 hA hp rfl h0 hv hl0 hl1 (by rw [hdd]; exact decide_eq_true h0) (hla h0) w ht ha1 ha2 hpr hP1 hP2 hP3
    · rw [h] at hP2
      exact texts_m_bare_false A p _ v v10 T T2 T3 hA hp rfl h0 hv hl0 hl1 (by rw [hdd]; exact decide_eq_false (by simpa using h0)) w ht ha1 ha2 hpr hP1 hP2 hP3 hTen hMul
  | false =>
    have hv := hv0
    rw [if_neg (by decide)] at hv
    rcases hbh with h | ⟨h0, h⟩ | ⟨h0, h⟩
    · rw [h] at hP2
      by_cases h0 : p % 1000000 = 0
      · exact texts_p_none_false A p _ v T T2 T3 hA hp rfl h0 hv hl0 hl1 (by rw [hdd]; exact decide_eq_false (by simpa using h0)) w ht ha1 ha2 hpr hP1 hP2 hP3
      · exact texts_p_none_true A p _ v T T2 T3 hA hp rfl h0 hv hl0 hl1 (by rw [hdd]; exact decide_eq_true h0) (hla h0) w ht ha1 ha2 hpr hP1 hP2 hP3
    · rw [h] at hP2
      exact texts_p_dot_true A p _ v T T2 T3 hA hp rfl h0 hv hl0 hl1 (by rw [hdd]; exact decide_eq_true h0) (hla h0) w ht ha1 ha2 hpr hP1 hP2 hP3
    · rw [h] at hP2
      exact texts_p_bare_false A p _ v v10 T T2 T3 hA hp rfl h0 hv hl0 hl1 (by rw [hdd]; exact decide_eq_false (by simpa using h0)) w ht ha1 ha2 hpr hP1 hP2 hP3 hTen hMul
end Go.Proofs.YtibdlcegmepbcabDoor
