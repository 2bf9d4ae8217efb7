/- RelabelFills: a text's signs are each filled with the value that matched. -/
import Derived.Test.YtideieolgjhbiaaGreatDoorBoxR
import Derived.Test.YtideieolgjhbiaaGreatDoorFillsP
namespace Go.Proofs.YtideieolgjhbiaaGreatDoor
open Go.RowKit

theorem take_ne_step {l : Str} {j : Nat} {P : UInt8 → Prop} (hj : j < l.length) (h : ∀ c ∈ l.take j, P c) (hc : P l[j]) : ∀ c ∈ l.take (j + 1), P c := by
  intro c hm
  rw [take_snocB l j hj, List.mem_append] at hm
  rcases hm with hm | hm
  · exact h c hm
  · rw [List.mem_singleton.1 hm]; exact hc
theorem fit_two {v : Str} (h : v.length ≤ 20) : Fit (two v [120]) := Fit.small (by
  intro p hp
  unfold two at hp
  rcases List.mem_cons.1 hp with rfl | hp
  · exact ⟨by simp, by show v.length ≤ 1000; omega⟩
  · rw [List.mem_singleton.1 hp]; exact ⟨by simp, by simp⟩)

set_option maxRecDepth 200000 in
set_option maxHeartbeats 4000000 in
theorem fills_any (v : Str) (N : Nat) (pre : Str) (w : World) (hv : v.length ≤ 9223372036854775807) (hN : N ≤ 255) (hp : pre.length ≤ 9223372036854775807) (hm : Mx w) :
    Calls Tryz.prog 7 #[tx v, .int .u8 N, tx pre] w fun e w' => e = .returned (.bool true) ∧ Below w.heap.size w w' := by
  have hkn := known_any w hm
  by_cases h0 : v.length = 0
  · have t0 : ((v.length : Int) == 0) = true := by rw [beq_iff_eq]; omega
    clear h0
    go_enter Tryz.func7, Tryz.ntmps7
    go_wp2_with fail
    refine hkn.mono ?_
    rintro e w1 ⟨rfl, hb1⟩
    go_wp2_with fail
    go_ret
    exact ⟨rfl, hb1⟩
  have t0 : ((v.length : Int) == 0) = false := by rw [beq_eq_false_iff_ne]; omega
  by_cases h1 : v.length ≤ 20
  · by_cases h2 : pre.length ≤ 10
    · have t1 : ¬ (20 : Int) < v.length := by omega
      have t2 : ¬ (10 : Int) < pre.length := by omega
      go_enter Tryz.func7, Tryz.ntmps7
      go_wp2_with fail
      refine hkn.mono ?_
      rintro e w1 ⟨rfl, hb1⟩
      clear hkn
      go_wp2_with fail
      go_loop [7] (fun x => ∃ j : Nat, j ≤ v.length ∧ x = .int .i64 j ∧ Hid (∀ c ∈ v.take j, c ≠ 10)) (fun x => v.length - (intOf x).toNat)
      case atStart => exact ⟨0, by omega, rfl, fun c hc => by simp at hc⟩
      case round =>
        obtain ⟨j, hj, rfl, HV⟩ := hrel
        by_cases hlt : j < v.length
        · have hbj := ba_lt hlt
          have HC : Hid (v[j] = (⟨v.toArray⟩ : ByteArray)[j]'hbj) := rfl
          have HS : Hid (v[j] ≠ 10 → ∀ c ∈ v.take (j + 1), c ≠ 10) := fun h => take_ne_step (P := fun c => c ≠ 10) hlt HV.out h
          clear HV
          by_cases hc : v[j] = 10
          · have t3 : ((((⟨v.toArray⟩ : ByteArray)[j]'hbj).toNat : Int) == 10) = true := by rw [← HC.out, hc]; rfl
            clear HC HS hc
            go_wp2_with fail
            go_ret
            exact ⟨rfl, hb1⟩
          · have t3 : ((((⟨v.toArray⟩ : ByteArray)[j]'hbj).toNat : Int) == 10) = false := by
              rw [← HC.out, beq_eq_false_iff_ne]
              intro e
              exact hc (UInt8.toNat_inj.1 (by show v[j].toNat = 10; omega))
            have HR : Hid _ := HS.out hc
            clear HC HS hc
            go_wp2_with fail
            go_round
            case rel => exact ⟨j + 1, by omega, by go_num, HR⟩
            case measure => simp [intOf]; omega
        · have HV2 : Hid ((10 : UInt8) ∉ v) := by
            intro hmem
            have := HV.out 10 (by rw [List.take_of_length_le (by omega)]; exact hmem)
            exact this rfl
          clear HV
          go_wp2_with fail
          go_loop [8] (fun x => ∃ j : Nat, j ≤ pre.length ∧ x = .int .i64 j ∧ Hid (∀ c ∈ pre.take j, c ≠ 36 ∧ c ≠ 10)) (fun x => pre.length - (intOf x).toNat)
          case atStart => exact ⟨0, by omega, rfl, fun c hc => by simp at hc⟩
          case round =>
            obtain ⟨j2, hj2, rfl, HP⟩ := hrel
            by_cases hlt2 : j2 < pre.length
            · have hbj := ba_lt hlt2
              have HC : Hid (pre[j2] = (⟨pre.toArray⟩ : ByteArray)[j2]'hbj) := rfl
              have HS : Hid ((pre[j2] ≠ 36 ∧ pre[j2] ≠ 10) → ∀ c ∈ pre.take (j2 + 1), c ≠ 36 ∧ c ≠ 10) := fun h => take_ne_step (P := fun c => c ≠ 36 ∧ c ≠ 10) hlt2 HP.out h
              clear HP
              by_cases hc : pre[j2] = 36
              · have t3 : ((((⟨pre.toArray⟩ : ByteArray)[j2]'hbj).toNat : Int) == 36) = true := by rw [← HC.out, hc]; rfl
                clear HC HS hc
                go_wp2_with fail
                go_ret
                exact ⟨rfl, hb1⟩
              · have t3 : ((((⟨pre.toArray⟩ : ByteArray)[j2]'hbj).toNat : Int) == 36) = false := by
                  rw [← HC.out, beq_eq_false_iff_ne]
                  intro e
                  exact hc (UInt8.toNat_inj.1 (by show pre[j2].toNat = 36; omega))
                by_cases hd : pre[j2] = 10
                · have t4 : ((((⟨pre.toArray⟩ : ByteArray)[j2]'hbj).toNat : Int) == 10) = true := by rw [← HC.out, hd]; rfl
                  clear HC HS hc hd
                  go_wp2_with fail
                  go_ret
                  exact ⟨rfl, hb1⟩
                · have t4 : ((((⟨pre.toArray⟩ : ByteArray)[j2]'hbj).toNat : Int) == 10) = false := by
                    rw [← HC.out, beq_eq_false_iff_ne]
                    intro e
                    exact hd (UInt8.toNat_inj.1 (by show pre[j2].toNat = 10; omega))
                  have HR : Hid _ := HS.out ⟨hc, hd⟩
                  clear HC HS hc hd
                  go_wp2_with fail
                  go_round
                  case rel => exact ⟨j2 + 1, by omega, by go_num, HR⟩
                  case measure => simp [intOf]; omega
            · have HP2 : Hid (∀ c ∈ pre, c ≠ 36 ∧ c ≠ 10) := fun c hc => HP.out c (by rw [List.take_of_length_le (by omega)]; exact hc)
              clear HP
              go_wp2_with fail
              go_loop [11, 9, 10] (fun x y z => ∃ (k : Nat) (t u : Str), k ≤ N % 5 ∧ x = .int .i64 k ∧ y = tx t ∧ z = tx u ∧ Hid (t = tUp pre k) ∧ Hid (u = wUp pre v k) ∧ t.length ≤ 10 + k ∧ u.length ≤ 10 + 20 * k) (fun x _ _ => N % 5 - (intOf x).toNat)
              case atStart => exact ⟨0, pre, pre, by omega, rfl, rfl, rfl, by show _ = _; simp [tUp], by show _ = _; simp [wUp], by omega, by omega⟩
              case round =>
                obtain ⟨k, t, u, hk, rfl, rfl, rfl, HT, HU, ht, hu⟩ := hrel
                by_cases hkl : k < N % 5
                · have hkl' : (k : Int) < (N : Int) % 5 := by omega
                  have a1 : (⟨t.toArray⟩ : ByteArray) ++ ⟨#[36]⟩ = ⟨(t ++ [36]).toArray⟩ := ba_append t [36]
                  have a2 : (⟨u.toArray⟩ : ByteArray) ++ ⟨v.toArray⟩ = ⟨(u ++ v).toArray⟩ := ba_append u v
                  have HT2 : Hid (t ++ [36] = tUp pre (k + 1)) := by show _ = _; rw [HT.out, tUp_succ]
                  have HU2 : Hid (u ++ v = wUp pre v (k + 1)) := by show _ = _; rw [HU.out, wUp_succ]
                  have ht2 : (t ++ [36]).length ≤ 10 + (k + 1) := by simp; omega
                  have hu2 : (u ++ v).length ≤ 10 + 20 * (k + 1) := by simp; omega
                  generalize t ++ [36] = t' at *
                  generalize u ++ v = u' at *
                  clear HT HU
                  go_wp2_with fail
                  go_round
                  case rel => exact ⟨k + 1, t', u', by omega, by go_num, rfl, rfl, HT2, HU2, ht2, hu2⟩
                  case measure => simp [intOf]; omega
                · have hkl' : ¬ (k : Int) < (N : Int) % 5 := by omega
                  have hk4 : k ≤ 4 := by omega
                  have HF : Hid (fApply (two v [120]) [fR t] = if u.length ≤ 30 then (full (two v u), true, 0) else ([], false, 30)) := by
                    show _ = _
                    rw [HT.out, HU.out]
                    exact fills_ap (fun e => h0 (by rw [e]; rfl)) h1 HV2.out h2 (fun c hc => (HP2.out c hc).1) (fun h => (HP2.out 10 h).2 rfl) hk4
                  have HG : Hid _ := two_get v u (fun e => h0 (by rw [e]; rfl))
                  have hV := bal (bal (Below.refl _ w1) (.cells #[tx [97], tx v, tx [98], tx [120]] 44)) (cR (fR t))
                  have hps : Ps ((w1.alloc (.cells #[tx [97], tx v, tx [98], tx [120]] 44)).alloc (cR (fR t))) (some ⟨w1.heap.size, 0, none⟩) 2 (two v [120]) := (Ps.two w1 ([97], v) ([98], [120])).later (bal (Below.refl _ _) _)
                  have hfr : FitR (fR t) := fit_k _ _ _ _ (by simp) (by simp) (by simp) (by omega)
                  have hap := apply_any (some ⟨w1.heap.size, 0, none⟩) 2 2 (two v [120]) _ 1 1 [fR t] _ (by omega) (by omega) (fit_two h1) (fitRs_one hfr) (hps.later (bal (Below.refl _ _) _)) (Rs.one _ (fR t)) ((hm.later hb1).later (bal hV _))
                  rw [size_alloc, size_alloc, HF.out] at hap
                  have hV3 := Below.chain hb1 (bal hV (cR (fR t)))
                  clear HF HT HU HV2 HP2 hps hfr hV
                  by_cases hu3 : u.length ≤ 30
                  · have t5 : ¬ (30 : Int) < u.length := by omega
                    rw [if_pos hu3] at hap
                    go_wp2_with fail
                    refine hap.mono ?_
                    rintro e w2 ⟨ao, M, cap, rfl, hps2, hb2⟩
                    have hM : M ≤ 9223372036854775807 := by
                      have h3 := hps2.1
                      have h4 : (full (two v u)).length ≤ 2 := List.length_filter_le _ _
                      rw [← h3]; exact Nat.le_trans h4 (by omega)
                    have hg1 := fun W (hW : Below w2.heap.size w2 W) => get_any ao M cap (full (two v u)) [98] W hM (hps2.later hW)
                    have hg2 := fun W (hW : Below w2.heap.size w2 W) => get_any ao M cap (full (two v u)) [97] W hM (hps2.later hW)
                    rw [HG.out.2] at hg1
                    rw [HG.out.1] at hg2
                    clear hps2 HG hap
                    go_wp2_with fail
                    refine (hg1 _ (Below.refl _ _)).mono ?_
                    rintro e w3 ⟨rfl, hb3⟩
                    go_wp2_with fail
                    refine (hg2 _ hb3).mono ?_
                    rintro e w4 ⟨rfl, hb4⟩
                    go_wp2_with fail
                    go_ret
                    exact ⟨rfl, Below.chain (Below.chain (Below.chain hV3 hb2) hb3) hb4⟩
                  · have t5 : (30 : Int) < u.length := by omega
                    rw [if_neg hu3] at hap
                    go_wp2_with fail
                    refine hap.mono ?_
                    rintro e w2 ⟨ao, M, cap, rfl, hps2, hb2⟩
                    clear hap
                    go_wp2_with fail
                    go_ret
                    exact ⟨rfl, Below.chain hV3 hb2⟩
    · have t1 : ¬ (20 : Int) < v.length := by omega
      have t2 : (10 : Int) < pre.length := by omega
      go_enter Tryz.func7, Tryz.ntmps7
      go_wp2_with fail
      refine hkn.mono ?_
      rintro e w1 ⟨rfl, hb1⟩
      go_wp2_with fail
      go_ret
      exact ⟨rfl, hb1⟩
  · have t1 : (20 : Int) < v.length := by omega
    go_enter Tryz.func7, Tryz.ntmps7
    go_wp2_with fail
    refine hkn.mono ?_
    rintro e w1 ⟨rfl, hb1⟩
    go_wp2_with fail
    go_ret
    exact ⟨rfl, hb1⟩
end Go.Proofs.YtideieolgjhbiaaGreatDoor
