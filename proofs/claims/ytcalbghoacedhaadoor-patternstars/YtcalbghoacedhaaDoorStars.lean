/- PatternStars: stars beside one another are one; as many stars as one likes. -/
import Derived.Test.YtcalbghoacedhaaDoorKnown
import Derived.Test.YtcalbghoacedhaaDoorGLaws
import Derived.Test.YtcalbghoacedhaaDoorCuts
namespace Go.Proofs.YtcalbghoacedhaaDoor
open Go.RowKit

theorem thick_take {n : Nat} {p : Str} {k : Nat} (h : k < p.length) : thick n (p.take (k + 1)) = (thick n (p.take k) ++ [p[k]]) ++ (if p[k] = 42 then stars n else []) := by
  rw [take_snocB p k h, thick_snoc, List.append_assoc]; rfl

set_option maxRecDepth 200000 in
set_option maxHeartbeats 4000000 in
theorem stars_walk (p s : Str) (N : Nat) (w : World) (hp : Big p) (hs : Big s) (hN : N ≤ 255) :
    Calls Tryd.prog 7 #[tx p, tx s, .int .u8 N] w fun e w' => e = .returned (.bool true) ∧ Below w.heap.size w w' := by
  unfold Big at hp hs
  go_enter Tryd.func7, Tryd.ntmps7
  go_wp2_with fail
  refine (known_any _).mono ?_
  rintro e w1 ⟨rfl, hb1⟩
  by_cases h1 : p.length ≤ 20
  · have h1' : ¬ (20 : Int) < p.length := by omega
    by_cases h2 : s.length ≤ 40
    · have h2' : ¬ (40 : Int) < s.length := by omega
      go_wp2_with fail
      go_loopw [8, 7] (fun x y wr => ∃ (i : Nat) (t : Str), i ≤ p.length ∧ x = .int .i64 i ∧ y = tx t ∧ Hid (t = thick (N % 6) (p.take i)) ∧ t.length ≤ 7 * i ∧ Below w.heap.size w wr) (fun x _ _ => p.length - (intOf x).toNat)
      case atStart => exact ⟨0, [], by omega, rfl, rfl, rfl, by simp, hb1⟩
      case round =>
        obtain ⟨i, t, hi, rfl, rfl, HT, ht, hbr⟩ := hrel
        by_cases hlt : i < p.length
        · have hbi := ba_lt hlt
          have HC : Hid (p[i] = (⟨p.toArray⟩ : ByteArray)[i]'hbi) := rfl
          have hex := ex_one p i hlt
          have hwr : IntKind.i64.wrap ((i : Int) + 1) = (i : Int) + 1 := by rw [IntKind.wrap_i64]; omega
          have hi1 : (i : Int) + 1 ≤ p.length := by omega
          have hi2 : ¬ ((i : Int) + 1 < 0) := by omega
          have hi3 : ((i : Int) + 1).toNat = i + 1 := by omega
          have hi4 : (i : Int) ≤ (i : Int) + 1 := by omega
          have a1 : (⟨t.toArray⟩ : ByteArray) ++ ⟨[p[i]].toArray⟩ = ⟨(t ++ [p[i]]).toArray⟩ := ba_append _ _
          have HE : Hid (thick (N % 6) (p.take (i + 1)) = (t ++ [p[i]]) ++ (if p[i] = 42 then stars (N % 6) else [])) := by
            show _ = _
            rw [thick_take hlt, HT.out]
          have hr1 : (t ++ [p[i]]).length ≤ 7 * i + 1 := by simp; omega
          generalize p[i] = c at *
          generalize t ++ [c] = r at *
          clear HT
          by_cases hc : c = 42
          · rw [if_pos hc] at HE
            have t1 : ((((⟨p.toArray⟩ : ByteArray)[i]'hbi).toNat : Int) == 42) = true := by rw [← HC.out, hc]; rfl
            clear HC hc
            go_wp2_with fail
            go_loopw [9, 7] (fun x y wr => ∃ (k : Nat) (u : Str), k ≤ N % 6 ∧ x = .int .i64 k ∧ y = tx u ∧ Hid (u = r ++ stars k) ∧ u.length ≤ 7 * i + 1 + k ∧ Below w.heap.size w wr) (fun x _ _ => N % 6 - (intOf x).toNat)
            case atStart => exact ⟨0, r, by omega, rfl, rfl, by show _ = _; simp [stars], by omega, hbr⟩
            case round =>
              obtain ⟨k, u, hk, rfl, rfl, HU, hu, hbk⟩ := hrel
              by_cases hkl : k < N % 6
              · have hkl' : (k : Int) < (N : Int) % 6 := by omega
                have a2 : (⟨u.toArray⟩ : ByteArray) ++ ⟨#[42]⟩ = ⟨(u ++ [42]).toArray⟩ := ba_append u [42]
                have HR : Hid (u ++ [42] = r ++ stars (k + 1)) := by show _ = _; rw [HU.out, stars_succ, List.append_assoc]
                have hl : (u ++ [42]).length ≤ 7 * i + 1 + (k + 1) := by simp; omega
                generalize u ++ [42] = u2 at *
                clear HU HE
                go_wp2_with fail
                go_roundw
                case rel => exact ⟨k + 1, u2, by omega, by go_num, rfl, HR, hl, hbk⟩
                case measure => simp [intOf]; omega
              · have hkl' : ¬ (k : Int) < (N : Int) % 6 := by omega
                have HR : Hid (u = thick (N % 6) (p.take (i + 1))) := by show _ = _; rw [HE.out, HU.out, show k = N % 6 from by omega]
                clear HU HE
                go_wp2_with fail
                go_roundw
                case rel => exact ⟨i + 1, u, by omega, by go_num, rfl, HR, by omega, hbk⟩
                case measure => simp [intOf]; omega
          · rw [if_neg hc, List.append_nil] at HE
            have t1 : ((((⟨p.toArray⟩ : ByteArray)[i]'hbi).toNat : Int) == 42) = false := by
              rw [← HC.out]
              have := @byte_eq c 42
              rw [show ((42 : UInt8).toNat : Int) = 42 from rfl] at this
              rw [this]; simpa using hc
            have HR : Hid (r = thick (N % 6) (p.take (i + 1))) := HE.out.symm
            clear HC hc HE
            go_wp2_with fail
            go_loopw [9, 7] (fun x y wr => x = .int .i64 0 ∧ y = tx r ∧ Below w.heap.size w wr) (fun _ _ _ => 0)
            case atStart => exact ⟨rfl, rfl, hbr⟩
            case round =>
              obtain ⟨rfl, rfl, hbk⟩ := hrel
              go_wp2_with fail
              go_roundw
              case rel => exact ⟨i + 1, r, by omega, by go_num, rfl, HR, by omega, hbk⟩
              case measure => simp [intOf]; omega
        · have HQ : Hid (t = thick (N % 6) p) := by
            have := HT.out
            rw [List.take_of_length_le (by omega)] at this
            exact this
          clear HT
          go_wp2_with fail
          go_loopw [11, 10] (fun x y wr => ∃ (k : Nat) (u : Str), k ≤ N % 40 ∧ x = .int .i64 k ∧ y = tx u ∧ Hid (u = steps k) ∧ u.length ≤ 2 * k ∧ Below w.heap.size w wr) (fun x _ _ => N % 40 - (intOf x).toNat)
          case atStart => exact ⟨0, [], by omega, rfl, rfl, rfl, by simp, hbr⟩
          case round =>
            obtain ⟨k, u, hk, rfl, rfl, HU, hu, hbk⟩ := hrel
            clear hbr
            by_cases hkl : k < N % 40
            · have hkl' : (k : Int) < (N : Int) % 40 := by omega
              have a2 : (⟨u.toArray⟩ : ByteArray) ++ ⟨#[97, 42]⟩ = ⟨(u ++ [97, 42]).toArray⟩ := ba_append u [97, 42]
              have HR : Hid (u ++ [97, 42] = steps (k + 1)) := by show _ = _; rw [HU.out, steps_succ]
              have hl : (u ++ [97, 42]).length ≤ 2 * (k + 1) := by simp; omega
              generalize u ++ [97, 42] = u2 at *
              clear HU
              go_wp2_with fail
              go_roundw
              case rel => exact ⟨k + 1, u2, by omega, by go_num, rfl, HR, hl, hbk⟩
              case measure => simp [intOf]; omega
            · have hkl' : ¬ (k : Int) < (N : Int) % 40 := by omega
              have HR : Hid (u = steps (N % 40)) := by show _ = _; rw [HU.out, show k = N % 40 from by omega]
              clear HU
              go_wp2_with fail
              go_loopw [13, 12] (fun x y wr => ∃ (k : Nat) (v : Str), k ≤ 60 ∧ x = .int .i64 k ∧ y = tx v ∧ Hid (v = aas k) ∧ v.length ≤ k ∧ Below w.heap.size w wr) (fun x _ _ => 60 - (intOf x).toNat)
              case atStart => exact ⟨0, [], by omega, rfl, rfl, rfl, by simp, hbk⟩
              case round =>
                obtain ⟨m, v, hm, rfl, rfl, HV, hv, hbm⟩ := hrel
                clear hbk
                by_cases hml : m < 60
                · have hml' : (m : Int) < 60 := by omega
                  have a2 : (⟨v.toArray⟩ : ByteArray) ++ ⟨#[97]⟩ = ⟨(v ++ [97]).toArray⟩ := ba_append v [97]
                  have HR2 : Hid (v ++ [97] = aas (m + 1)) := by show _ = _; rw [HV.out, aas_succ]
                  have hl : (v ++ [97]).length ≤ m + 1 := by simp; omega
                  generalize v ++ [97] = u2 at *
                  clear HV
                  go_wp2_with fail
                  go_roundw
                  case rel => exact ⟨m + 1, u2, by omega, by go_num, rfl, HR2, hl, hbm⟩
                  case measure => simp [intOf]; omega
                · have hml' : ¬ (m : Int) < 60 := by omega
                  have HV2 : Hid (v = aas 60) := by show _ = _; rw [HV.out, show m = 60 from by omega]
                  have a3 : (⟨u.toArray⟩ : ByteArray) ++ ⟨#[98]⟩ = ⟨(u ++ [98]).toArray⟩ := ba_append u [98]
                  have g1 : ∀ W, Calls Tryd.prog 13 #[tx p, tx s] W fun e w' => e = .returned (.bool (gm p s)) ∧ Below W.heap.size W w' := fun W => glob_any p s W hp hs
                  have g2 : ∀ W, Calls Tryd.prog 13 #[tx t, tx s] W fun e w' => e = .returned (.bool (gm p s)) ∧ Below W.heap.size W w' := fun W => by
                    have := glob_any t s W (by omega) hs
                    rw [HQ.out, gm_thick] at this
                    rw [HQ.out]; exact this
                  have g3 : ∀ W, Calls Tryd.prog 13 #[tx (u ++ [98]), tx v] W fun e w' => e = .returned (.bool false) ∧ Below W.heap.size W w' := fun W => by
                    have := glob_any (u ++ [98]) v W (by simp; omega) (by omega)
                    rw [HR.out, HV2.out, gm_steps_no] at this
                    rw [HR.out, HV2.out]; exact this
                  have g4 : ∀ W, Calls Tryd.prog 13 #[tx u, tx v] W fun e w' => e = .returned (.bool (decide (0 < N % 40))) ∧ Below W.heap.size W w' := fun W => by
                    have := glob_any u v W (by omega) (by omega)
                    rw [HR.out, HV2.out, gm_steps (by omega)] at this
                    rw [HR.out, HV2.out]; exact this
                  have hl : (u ++ [98]).length ≤ 81 := by simp; omega
                  generalize u ++ [98] = u2 at *
                  clear HV HV2 HR HQ
                  generalize gm p s = x at *
                  by_cases h0 : 0 < N % 40
                  · have h0' : (0 : Int) < (N : Int) % 40 := by omega
                    rw [decide_eq_true h0] at g4
                    clear h0
                    cases x <;> (
                      go_wp2_with fail
                      refine (g1 _).mono ?_
                      rintro e w2 ⟨rfl, hb2⟩
                      go_wp2_with fail
                      refine (g2 _).mono ?_
                      rintro e w3 ⟨rfl, hb3⟩
                      go_wp2_with fail
                      refine (g3 _).mono ?_
                      rintro e w4 ⟨rfl, hb4⟩
                      go_wp2_with fail
                      refine (g4 _).mono ?_
                      rintro e w5 ⟨rfl, hb5⟩
                      go_wp2_with fail
                      go_ret
                      exact ⟨rfl, Below.chain (Below.chain (Below.chain (Below.chain hbm hb2) hb3) hb4) hb5⟩)
                  · have h0' : ¬ (0 : Int) < (N : Int) % 40 := by omega
                    rw [decide_eq_false h0] at g4
                    clear h0
                    cases x <;> (
                      go_wp2_with fail
                      refine (g1 _).mono ?_
                      rintro e w2 ⟨rfl, hb2⟩
                      go_wp2_with fail
                      refine (g2 _).mono ?_
                      rintro e w3 ⟨rfl, hb3⟩
                      go_wp2_with fail
                      refine (g3 _).mono ?_
                      rintro e w4 ⟨rfl, hb4⟩
                      go_wp2_with fail
                      refine (g4 _).mono ?_
                      rintro e w5 ⟨rfl, hb5⟩
                      go_wp2_with fail
                      go_ret
                      exact ⟨by show Ending.returned (.bool (!decide ((0 : Int) < (N : Int) % 40))) = _; rw [decide_eq_false (by omega)]; rfl, Below.chain (Below.chain (Below.chain (Below.chain hbm hb2) hb3) hb4) hb5⟩)
    · have h2' : (40 : Int) < s.length := by omega
      go_wp2_with fail
      go_ret
      exact ⟨rfl, hb1⟩
  · have h1' : (20 : Int) < p.length := by omega
    go_wp2_with fail
    go_ret
    exact ⟨rfl, hb1⟩
end Go.Proofs.YtcalbghoacedhaaDoor
