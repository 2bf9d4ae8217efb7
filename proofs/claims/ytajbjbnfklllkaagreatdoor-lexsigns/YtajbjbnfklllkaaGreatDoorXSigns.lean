/- LexSigns: for every bytes. -/
import Derived.Test.YtajbjbnfklllkaaGreatDoorXSignsP
import Derived.Test.YtajbjbnfklllkaaGreatDoorXKnown
import Derived.Test.YtajbjbnfklllkaaGreatDoorXOpen
import Derived.BigQuiet
namespace Go.Proofs.YtajbjbnfklllkaaGreatDoor
open Go.RowKit

theorem cat_take {l : List UInt8} {j : Nat} (h : j < l.length) : cat ((l.take (j + 1)).map sgOf) = cat ((l.take j).map sgOf) ++ (sgOf (l.getD j 0) ++ [32]) := by
  rw [List.take_succ_eq_append_getElem h, List.map_append, List.map_cons, List.map_nil, cat_snoc]
  simp [List.getD, List.getElem?_eq_getElem h]
set_option maxHeartbeats 8000000 in
set_option maxRecDepth 200000 in
theorem signsLaw_any (ao : Option Addr) (n cap : Nat) (l : List UInt8) (w : World) (hn : n ≤ 9223372036854775807) (hs : Ns w ao n l) (he : Ev w) : Calls Tryz.prog 7 #[.slice ao n cap] w fun e w' => e = .returned (.bool true) ∧ Below w.heap.size w w' := by
  have hk := known_any w he
  by_cases h60 : 60 < n
  · have h60' : (60 : Int) < n := by omega
    clear h60
    go_enter Tryz.func7, Tryz.ntmps7
    go_wp2_with fail
    refine hk.mono ?_
    rintro e w1 ⟨rfl, hb1⟩
    go_wp2
    go_ret
    exact ⟨rfl, hb1⟩
  · have h60' : ¬ (60 : Int) < n := by omega
    have HLN : Hid (l.length = n) := hs.1
    have HRD : Hid _ := signs_read l (by have := HLN.out; omega)
    have hcl : (cat (l.map sgOf)).length ≤ 180 := by
      have := cat_len (l.map sgOf) (fun x hx => by
        obtain ⟨c, _, rfl⟩ := List.mem_map.1 hx
        exact (sign_len (sgOf_is c)).2)
      rw [List.length_map] at this
      have := HLN.out
      omega
    have hsc := fun W (hW : Ev W) => scan_any (cat (l.map sgOf)) W (by omega) hW
    rw [HRD.out.1] at hsc
    clear h60
    go_enter Tryz.func7, Tryz.ntmps7
    go_wp2_with fail
    refine hk.mono ?_
    rintro e w1 ⟨rfl, hb1⟩
    go_wp2_with fail
    refine (signs_any _).mono ?_
    rintro e w2 ⟨cs, rfl, hcs, hb2⟩
    have B2 := Below.chain hb1 hb2
    go_wp2_with (refine wp_store45r (w2 := w2) rfl _ _ rfl cs hcs rfl rfl ?_; intro w3 HROW hb3)
    have B3 := Below.chain B2 hb3
    clear hb3 hb2 hb1
    generalize w2.heap.size = gS at *
    have hs3 := fun hp : 0 < n => hs.2 hp
    go_wp2_with fail
    go_loop [4, 5] (fun u i => ∃ (j : Nat) (S : Str), j ≤ n ∧ i = .int .i64 j ∧ u = tx S ∧ S.length ≤ 3 * j ∧ Hid (S = cat ((l.take j).map sgOf))) (fun _ i => n - (intOf i).toNat)
    case atStart => exact ⟨0, [], by omega, rfl, rfl, by simp, rfl⟩
    case round =>
      obtain ⟨j, S, hj, rfl, rfl, hSl, HS⟩ := hrel
      by_cases hlt : j < n
      · obtain ⟨b1, o1, rfl, hc1⟩ := hs3 (by omega)
        have c0 := hc1 j hlt
        have k0 := (B3.cell (p := ⟨b1, o1 + j, none⟩) (World.block_lt_of_cell? _ _ c0)).trans c0
        have HN := cat_take (l := l) (j := j) (by rw [HLN.out]; exact hlt)
        rw [← HS.out] at HN
        have hsl := (sign_len (sgOf_is (l.getD j 0))).2
        obtain ⟨K, hK⟩ : ∃ K : Nat, K = (l.getD j 0).toNat % 20 := ⟨_, rfl⟩
        have hK20 : K < 22 := by omega
        have hKr : (((l.getD j 0).toNat : Nat) : Int) % 20 = (K : Int) := by omega
        have hKl : (K : Int) < 22 := by omega
        have hcell := World.rowIs.cell HROW.out hK20
        have hV : sgV K = tx (sgOf (l.getD j 0)) := by rw [hK]; rfl
        rw [hV] at hcell
        generalize sgOf (l.getD j 0) = T at *
        generalize ((l.getD j 0).toNat : Nat) = X at *
        have a1 : (⟨S.toArray⟩ : ByteArray) ++ ⟨T.toArray⟩ = ⟨(S ++ T).toArray⟩ := ba_append S T
        have a2 : (⟨(S ++ T).toArray⟩ : ByteArray) ++ ⟨#[32]⟩ = ⟨(S ++ (T ++ [32])).toArray⟩ := by rw [← List.append_assoc]; exact ba_append _ [32]
        have h1 : (S ++ T).length ≤ 500 := by simp; omega
        have h2 : (S ++ (T ++ [32])).length ≤ 3 * (j + 1) := by simp; omega
        obtain ⟨S1, e1⟩ : ∃ S1, S1 = S ++ T := ⟨_, rfl⟩
        rw [← e1] at a1 a2 h1
        obtain ⟨S2, e2⟩ : ∃ S2, S2 = S ++ (T ++ [32]) := ⟨_, rfl⟩
        rw [← e2] at a2 h2 HN
        have HN2 : Hid (S2 = cat ((l.take (j + 1)).map sgOf)) := HN.symm
        clear HN e1 e2 HS hV hK c0 hc1
        go_wp2
        go_round
        case rel => exact ⟨j + 1, S2, by omega, by go_num, rfl, h2, HN2⟩
        case measure => simp [intOf]; omega
      · have e : S = cat (l.map sgOf) := by rw [HS.out, List.take_of_length_le (by rw [HLN.out]; omega)]
        rw [← e] at HRD hsc
        clear e HS
        go_wp2_with fail
        refine (hsc _ (he.later B3)).mono ?_
        rintro e w4 ⟨v, rfl, ho, hb4⟩
        have B4 := Below.chain B3 hb4
        have HR4 : Hid (World.rowIs w4 gS 45 22 sgV) := World.rowIs.of_block HROW.out (hb4.block gS (World.rowIs.lt HROW.out))
        obtain ⟨ao4, cap4, rfl, hts, hcp, _⟩ := ho.slice
        have hl4 : (scL S).length = n + 1 := by rw [HRD.out.2.1, HLN.out]
        rw [hl4] at hts hcp ⊢
        have HTOK : Hid (∀ j, j < n → ((scL S).getD j tk0).k = 5 ∧ ((scL S).getD j tk0).t = sgOf (l.getD j 0)) := fun j hj => HRD.out.2.2 j (by rw [HLN.out]; exact hj)
        obtain ⟨b4, o4, rfl, _⟩ := hts.2 (by omega)
        have hnn : ((n : Int) + 1 != (n : Int) + 1) = false := by simp
        clear HRD hsc ho hl4 HROW
        generalize scL S = L4 at *
        generalize scP S = P4 at *
        go_wp2_with fail
        go_loopw [9] (fun i wr => ∃ (q : Nat), q ≤ n ∧ i = .int .i64 q ∧ Below w4.heap.size w4 wr) (fun i _ => n - (intOf i).toNat)
        case atStart => exact ⟨0, by omega, rfl, Below.refl _ _⟩
        case round =>
          obtain ⟨q, hq, rfl, hbr⟩ := hrel
          by_cases hlq : q < n
          · obtain ⟨b1, o1, rfl, hc1⟩ := hs3 (by omega)
            have c0 := hc1 q hlq
            have k0 := ((Below.chain B4 hbr).cell (p := ⟨b1, o1 + q, none⟩) (World.block_lt_of_cell? _ _ c0)).trans c0
            have htr := hts.later hbr
            have HR5 : Hid (World.rowIs wr gS 45 22 sgV) := World.rowIs.of_block HR4.out (hbr.block gS (World.rowIs.lt HR4.out))
            obtain ⟨K, hK⟩ : ∃ K : Nat, K = (l.getD q 0).toNat % 20 := ⟨_, rfl⟩
            have hK20 : K < 22 := by omega
            have hKr : (((l.getD q 0).toNat : Nat) : Int) % 20 = (K : Int) := by omega
            have hKl : (K : Int) < 22 := by omega
            have hcell := World.rowIs.cell HR5.out hK20
            have hV : sgV K = tx (sgOf (l.getD q 0)) := by rw [hK]; rfl
            rw [hV] at hcell
            have t0 := (htr.at q (by omega)).1
            have t2 := (htr.at q (by omega)).2.2.1
            rw [(HTOK.out q hlq).1] at t0
            rw [(HTOK.out q hlq).2] at t2
            generalize sgOf (l.getD q 0) = T at *
            generalize ((l.getD q 0).toNat : Nat) = X at *
            have hq1 : (q : Int) < (n : Int) + 1 := by omega
            clear hV hK c0 hc1 htr
            go_wp2
            go_quiet (fail)
            go_wp2
            go_roundw
            case rel => exact ⟨q + 1, by omega, by go_num, Fx.below_drewN hbr _⟩
            case measure => simp [intOf]; omega
          · go_wp2
            go_ret
            exact ⟨rfl, Below.chain B4 hbr⟩
end Go.Proofs.YtajbjbnfklllkaaGreatDoor
