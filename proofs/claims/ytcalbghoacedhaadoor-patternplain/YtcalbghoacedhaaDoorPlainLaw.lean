/- PatternPlain: without signs, with stars at an end, stars alone, marks. -/
import Derived.Test.YtcalbghoacedhaaDoorKnown
import Derived.Test.YtcalbghoacedhaaDoorGLaws
import Derived.Test.YtcalbghoacedhaaDoorCuts
namespace Go.Proofs.YtcalbghoacedhaaDoor
open Go.RowKit

theorem free_take {p : Str} {k : Nat} (h : k < p.length) (hf : free (p.take k)) (h1 : p[k] ≠ 42) (h2 : p[k] ≠ 63) : free (p.take (k + 1)) := by
  intro c hc
  rw [take_snocB p k h, List.mem_append, List.mem_singleton] at hc
  rcases hc with hc | rfl
  · exact hf c hc
  · exact ⟨h1, h2⟩
theorem begins_has (p s : Str) : hasB p s = begins p s := by
  rw [Bool.eq_iff_iff, begins_iff]
  unfold hasB
  rw [List.isPrefixOf_iff_prefix]
  constructor
  · rintro ⟨u, rfl⟩; exact ⟨u, rfl⟩
  · rintro ⟨u, rfl⟩; exact ⟨u, rfl⟩
theorem byte_no {c : UInt8} (n : Nat) (hn : n < 256) (h : c ≠ UInt8.ofNat n) : ((c.toNat : Int) == (n : Int)) = false := by
  rw [beq_eq_false_iff_ne]
  intro e
  apply h
  apply UInt8.toNat_inj.1
  rw [UInt8.toNat_ofNat_of_lt' hn]
  omega
theorem sub_cut {p s : Str} (h : p.length ≤ s.length) : ((s.length : Int) - p.length).toNat = s.length - p.length := by omega

set_option maxRecDepth 200000 in
set_option maxHeartbeats 4000000 in
theorem plain_walk (p s : Str) (N : Nat) (w : World) (hp : Big p) (hs : Big s) (hN : N ≤ 255) :
    Calls Tryd.prog 4 #[tx p, tx s, .int .u8 N] w fun e w' => e = .returned (.bool true) ∧ Below w.heap.size w w' := by
  unfold Big at hp hs
  go_enter Tryd.func4, Tryd.ntmps4
  go_wp2_with fail
  refine (known_any _).mono ?_
  rintro e w1 ⟨rfl, hb1⟩
  by_cases h1 : p.length ≤ 40
  · have h1' : ¬ (40 : Int) < p.length := by omega
    by_cases h2 : s.length ≤ 40
    · have h2' : ¬ (40 : Int) < s.length := by omega
      go_wp2_with fail
      go_loopw [7] (fun x wr => ∃ i : Nat, i ≤ p.length ∧ x = .int .i64 i ∧ Hid (free (p.take i)) ∧ Below w.heap.size w wr) (fun x _ => p.length - (intOf x).toNat)
      case atStart => exact ⟨0, by omega, rfl, (by intro c hc; simp at hc), hb1⟩
      case round =>
        obtain ⟨i, hi, rfl, HF, hbr⟩ := hrel
        by_cases hlt : i < p.length
        · have hbi := ba_lt hlt
          have HC : Hid (p[i] = (⟨p.toArray⟩ : ByteArray)[i]'hbi) := rfl
          by_cases c1 : p[i] = 42
          · have t1 : ((((⟨p.toArray⟩ : ByteArray)[i]'hbi).toNat : Int) == 42) = true := by rw [← HC.out, c1]; rfl
            clear HC c1 HF
            go_wp2_with fail
            go_ret
            exact ⟨rfl, hbr⟩
          · have t1 : ((((⟨p.toArray⟩ : ByteArray)[i]'hbi).toNat : Int) == 42) = false := by rw [← HC.out]; exact byte_no 42 (by decide) c1
            by_cases c2 : p[i] = 63
            · have t2 : ((((⟨p.toArray⟩ : ByteArray)[i]'hbi).toNat : Int) == 63) = true := by rw [← HC.out, c2]; rfl
              clear HC c1 c2 HF
              go_wp2_with fail
              go_ret
              exact ⟨rfl, hbr⟩
            · have t2 : ((((⟨p.toArray⟩ : ByteArray)[i]'hbi).toNat : Int) == 63) = false := by rw [← HC.out]; exact byte_no 63 (by decide) c2
              have HR : Hid _ := free_take hlt HF.out c1 c2
              clear HC c1 c2 HF
              go_wp2_with fail
              go_roundw
              case rel => exact ⟨i + 1, by omega, by go_num, HR, hbr⟩
              case measure => simp [intOf]; omega
        · have HP : Hid (free p) := by
            have := HF.out
            rw [List.take_of_length_le (by omega)] at this
            exact this
          clear HF
          go_wp2_with fail
          go_loopw [9, 8] (fun x y wr => ∃ (k : Nat) (u : Str), k ≤ N % 5 + 1 ∧ x = .int .i64 k ∧ y = tx u ∧ Hid (u = stars k) ∧ u.length ≤ k ∧ Below w.heap.size w wr) (fun x _ _ => N % 5 + 1 - (intOf x).toNat)
          case atStart => exact ⟨0, [], by omega, rfl, rfl, rfl, by simp, hbr⟩
          case round =>
            obtain ⟨k, u, hk, rfl, rfl, HU, hu, hbk⟩ := hrel
            clear hbr
            by_cases hkl : k ≤ N % 5
            · have hkl' : (k : Int) ≤ (N : Int) % 5 := by omega
              have a2 : (⟨u.toArray⟩ : ByteArray) ++ ⟨#[42]⟩ = ⟨(u ++ [42]).toArray⟩ := ba_append u [42]
              have HR : Hid (u ++ [42] = stars (k + 1)) := by show _ = _; rw [HU.out, stars_succ]
              have hl : (u ++ [42]).length ≤ k + 1 := by simp; omega
              generalize u ++ [42] = u2 at *
              clear HU
              go_wp2_with fail
              go_roundw
              case rel => exact ⟨k + 1, u2, by omega, by go_num, rfl, HR, hl, hbk⟩
              case measure => simp [intOf]; omega
            · have hkl' : ¬ (k : Int) ≤ (N : Int) % 5 := by omega
              have HR : Hid (u = stars (N % 5 + 1)) := by show _ = _; rw [HU.out, show k = N % 5 + 1 from by omega]
              clear HU
              go_wp2_with fail
              go_loopw [11, 10] (fun x y wr => ∃ (k : Nat) (v : Str), k ≤ s.length ∧ x = .int .i64 k ∧ y = tx v ∧ Hid (v = marks k) ∧ v.length ≤ k ∧ Below w.heap.size w wr) (fun x _ _ => s.length - (intOf x).toNat)
              case atStart => exact ⟨0, [], by omega, rfl, rfl, rfl, by simp, hbk⟩
              case round =>
                obtain ⟨m, v, hm, rfl, rfl, HV, hv, hbm⟩ := hrel
                clear hbk
                by_cases hml : m < s.length
                · have a2 : (⟨v.toArray⟩ : ByteArray) ++ ⟨#[63]⟩ = ⟨(v ++ [63]).toArray⟩ := ba_append v [63]
                  have HR2 : Hid (v ++ [63] = marks (m + 1)) := by show _ = _; rw [HV.out, marks_succ]
                  have hl : (v ++ [63]).length ≤ m + 1 := by simp; omega
                  generalize v ++ [63] = u2 at *
                  clear HV
                  go_wp2_with fail
                  go_roundw
                  case rel => exact ⟨m + 1, u2, by omega, by go_num, rfl, HR2, hl, hbm⟩
                  case measure => simp [intOf]; omega
                · have HV2 : Hid (v = marks s.length) := by show _ = _; rw [HV.out, show m = s.length from by omega]
                  have a1 : (⟨p.toArray⟩ : ByteArray) ++ ⟨u.toArray⟩ = ⟨(p ++ u).toArray⟩ := ba_append p u
                  have a2 : (⟨u.toArray⟩ : ByteArray) ++ ⟨p.toArray⟩ = ⟨(u ++ p).toArray⟩ := ba_append u p
                  have a3 : (⟨v.toArray⟩ : ByteArray) ++ ⟨#[63]⟩ = ⟨(v ++ [63]).toArray⟩ := ba_append v [63]
                  have g1 : ∀ W, Calls Tryd.prog 13 #[tx p, tx s] W fun e w' => e = .returned (.bool (p == s)) ∧ Below W.heap.size W w' := fun W => by
                    rw [← gm_plain HP.out]; exact glob_any p s W hp hs
                  have g2 : ∀ W, Calls Tryd.prog 13 #[tx (p ++ u), tx s] W fun e w' => e = .returned (.bool (begins p s)) ∧ Below W.heap.size W w' := fun W => by
                    have := glob_any (p ++ u) s W (by simp; omega) hs
                    rw [HR.out, gm_begins HP.out] at this
                    rw [HR.out]; exact this
                  have g3 : ∀ W, Calls Tryd.prog 13 #[tx (u ++ p), tx s] W fun e w' => e = .returned (.bool (endsB p s)) ∧ Below W.heap.size W w' := fun W => by
                    have := glob_any (u ++ p) s W (by simp; omega) hs
                    rw [HR.out, gm_endsB HP.out] at this
                    rw [HR.out]; exact this
                  have g4 : ∀ W, Calls Tryd.prog 13 #[tx u, tx s] W fun e w' => e = .returned (.bool true) ∧ Below W.heap.size W w' := fun W => by
                    have := glob_any u s W (by omega) hs
                    rw [HR.out, gm_all] at this
                    rw [HR.out]; exact this
                  have g5 : ∀ W, Calls Tryd.prog 13 #[tx v, tx s] W fun e w' => e = .returned (.bool true) ∧ Below W.heap.size W w' := fun W => by
                    have := glob_any v s W (by omega) hs
                    rw [HV2.out, gm_marks_yes] at this
                    rw [HV2.out]; exact this
                  have g6 : ∀ W, Calls Tryd.prog 13 #[tx (v ++ [63]), tx s] W fun e w' => e = .returned (.bool false) ∧ Below W.heap.size W w' := fun W => by
                    have := glob_any (v ++ [63]) s W (by simp; omega) hs
                    rw [HV2.out, gm_marks_no] at this
                    rw [HV2.out]; exact this
                  have g7 : ∀ W, Calls Tryd.prog 11 #[.agg #[.string ⟨#[]⟩, .int .i64 3, tx p], tx s] W fun e w' => e = .returned (.bool (begins p s)) ∧ Below W.heap.size W w' := fun W => by
                    have := one_any ⟨[], 3, p⟩ s W hs hp
                    rw [show fOne ⟨[], 3, p⟩ s = hasB p s from rfl, begins_has] at this
                    exact this
                  have l1 : (p ++ u).length ≤ 100 := by simp; omega
                  have l2 : (u ++ p).length ≤ 100 := by simp; omega
                  have l3 : (v ++ [63]).length ≤ 100 := by simp; omega
                  generalize p ++ u = pu at *
                  generalize u ++ p = up at *
                  generalize v ++ [63] = v1 at *
                  clear HV HV2 HR HP
                  by_cases hle : p.length ≤ s.length
                  · have hle' : (p.length : Int) ≤ s.length := by omega
                    have x1 := cut_to s p.length
                    have x2 := cut_from s (s.length - p.length)
                    have x3 : IntKind.i64.wrap ((s.length : Int) - p.length) = ((s.length - p.length : Nat) : Int) := by rw [IntKind.wrap_i64]; omega
                    have HB : Hid (begins p s = (s.take p.length == p)) := by show _ = _; unfold begins; rw [decide_eq_true hle, Bool.true_and]
                    have HE : Hid (endsB p s = (s.drop (s.length - p.length) == p)) := by show _ = _; unfold endsB; rw [decide_eq_true hle, Bool.true_and]
                    have hD : s.length - p.length ≤ s.length := by omega
                    generalize s.take p.length = sp at *
                    generalize s.drop (s.length - p.length) = sd at *
                    generalize begins p s = bb at *
                    generalize endsB p s = be at *
                    generalize s.length - p.length = D at *
                    generalize hq : (p == s) = bq at *
                    have hsp : (sp == p) = bb := HB.out.symm
                    have hsd : (sd == p) = be := HE.out.symm
                    clear HB HE
                    go_wp2_with fail
                    refine (g1 _).mono ?_
                    rintro e y0 ⟨rfl, hy0⟩
                    have C0 := Below.chain hbm hy0
                    clear hy0
                    go_wp2_with fail
                    refine (g2 _).mono ?_
                    rintro e y1 ⟨rfl, hy1⟩
                    have C1 := Below.chain C0 hy1
                    clear hy1
                    go_wp2_with fail
                    refine (g3 _).mono ?_
                    rintro e y2 ⟨rfl, hy2⟩
                    have C2 := Below.chain C1 hy2
                    clear hy2
                    go_wp2_with fail
                    refine (g4 _).mono ?_
                    rintro e y3 ⟨rfl, hy3⟩
                    have C3 := Below.chain C2 hy3
                    clear hy3
                    go_wp2_with fail
                    refine (g5 _).mono ?_
                    rintro e y4 ⟨rfl, hy4⟩
                    have C4 := Below.chain C3 hy4
                    clear hy4
                    go_wp2_with fail
                    refine (g6 _).mono ?_
                    rintro e y5 ⟨rfl, hy5⟩
                    have C5 := Below.chain C4 hy5
                    clear hy5
                    go_wp2_with fail
                    refine (g7 _).mono ?_
                    rintro e y6 ⟨rfl, hy6⟩
                    have C6 := Below.chain C5 hy6
                    clear hy6
                    go_wp2_with fail
                    go_ret
                    exact ⟨rfl, C6⟩
                  · have hle' : ¬ (p.length : Int) ≤ s.length := by omega
                    have HB : Hid (begins p s = false) := by show _ = _; unfold begins; rw [decide_eq_false hle, Bool.false_and]
                    have HE : Hid (endsB p s = false) := by show _ = _; unfold endsB; rw [decide_eq_false hle, Bool.false_and]
                    rw [HB.out] at g2 g7
                    rw [HE.out] at g3
                    clear HB HE
                    generalize hq : (p == s) = bq at *
                    go_wp2_with fail
                    refine (g1 _).mono ?_
                    rintro e y0 ⟨rfl, hy0⟩
                    have C0 := Below.chain hbm hy0
                    clear hy0
                    go_wp2_with fail
                    refine (g2 _).mono ?_
                    rintro e y1 ⟨rfl, hy1⟩
                    have C1 := Below.chain C0 hy1
                    clear hy1
                    go_wp2_with fail
                    refine (g3 _).mono ?_
                    rintro e y2 ⟨rfl, hy2⟩
                    have C2 := Below.chain C1 hy2
                    clear hy2
                    go_wp2_with fail
                    refine (g4 _).mono ?_
                    rintro e y3 ⟨rfl, hy3⟩
                    have C3 := Below.chain C2 hy3
                    clear hy3
                    go_wp2_with fail
                    refine (g5 _).mono ?_
                    rintro e y4 ⟨rfl, hy4⟩
                    have C4 := Below.chain C3 hy4
                    clear hy4
                    go_wp2_with fail
                    refine (g6 _).mono ?_
                    rintro e y5 ⟨rfl, hy5⟩
                    have C5 := Below.chain C4 hy5
                    clear hy5
                    go_wp2_with fail
                    refine (g7 _).mono ?_
                    rintro e y6 ⟨rfl, hy6⟩
                    have C6 := Below.chain C5 hy6
                    clear hy6
                    go_wp2_with fail
                    go_ret
                    exact ⟨rfl, C6⟩
    · have h2' : (40 : Int) < s.length := by omega
      go_wp2_with fail
      go_ret
      exact ⟨rfl, hb1⟩
  · have h1' : (40 : Int) < p.length := by omega
    go_wp2_with fail
    go_ret
    exact ⟨rfl, hb1⟩
end Go.Proofs.YtcalbghoacedhaaDoor
