/- PatternParts: a star between two, and two side by side. -/
import Derived.Test.YtcalbghoacedhaaDoorKnown
import Derived.Test.YtcalbghoacedhaaDoorGLaws
namespace Go.Proofs.YtcalbghoacedhaaDoor
open Go.RowKit

theorem cut_to (P : Str) (p : Nat) : (⟨P.toArray⟩ : ByteArray).extract 0 p = ⟨(P.take p).toArray⟩ := by
  rw [Lib.extract_eq]
  congr 2
theorem ba_append (x y : List UInt8) : (⟨x.toArray⟩ : ByteArray) ++ ⟨y.toArray⟩ = ⟨(x ++ y).toArray⟩ := by
  apply ByteArray.ext
  simp
theorem anyAt_mono {a b s : Str} {i k m : Nat} (h2 : k ≤ m) (h : anyAt a b s i k = true) : anyAt a b s i m = true := by
  unfold anyAt at *
  rw [List.any_eq_true] at *
  obtain ⟨j, hj, h⟩ := h
  refine ⟨j, ?_, h⟩
  rw [List.mem_range] at *
  omega
theorem parts_end {a b s : Str} {i k : Nat} (hk : k ≤ s.length + 1) (h : (anyUp a b s i || anyAt a b s i k) = true) : anyUp a b s (i + 1) = true := by
  rw [anyUp_succ]
  rw [Bool.or_eq_true] at *
  rcases h with h | h
  · exact .inl h
  · exact .inr (anyAt_mono hk h)
theorem parts_step {a b s : Str} {i k : Nat} (hi : i ≤ k) (h : (anyUp a b s i || anyAt a b s i k) = false) : (anyUp a b s i || anyAt a b s i (k + 1)) = cutTo a b s i k := by
  rw [Bool.or_eq_false_iff] at h
  rw [anyAt_succ _ _ _ hi, h.1, h.2, Bool.false_or, Bool.false_or]

set_option maxRecDepth 200000 in
set_option maxHeartbeats 4000000 in
theorem parts_walk (a b s : Str) (w : World) (ha : Big a) (hb : Big b) (hs : Big s) :
    Calls Tryd.prog 5 #[tx a, tx b, tx s] w fun e w' => e = .returned (.bool true) ∧ Below w.heap.size w w' := by
  unfold Big at ha hb hs
  go_enter Tryd.func5, Tryd.ntmps5
  go_wp2_with fail
  refine (known_any _).mono ?_
  rintro e w1 ⟨rfl, hb1⟩
  by_cases h1 : a.length ≤ 20
  · have h1' : ¬ (20 : Int) < a.length := by omega
    by_cases h2 : b.length ≤ 20
    · have h2' : ¬ (20 : Int) < b.length := by omega
      by_cases h3 : s.length ≤ 30
      · have h3' : ¬ (30 : Int) < s.length := by omega
        clear h1 h2 h3
        have hA : ∀ (i : Nat) W, Calls Tryd.prog 13 #[tx a, .string ((⟨s.toArray⟩ : ByteArray).extract 0 i)] W fun e w' => e = .returned (.bool (gm a (s.take i))) ∧ Below W.heap.size W w' := fun i W => by
          rw [cut_to]; exact glob_any a (s.take i) W ha (by rw [List.length_take]; omega)
        have hB : ∀ (i : Nat) W, Calls Tryd.prog 13 #[tx b, .string ((⟨s.toArray⟩ : ByteArray).extract i s.length)] W fun e w' => e = .returned (.bool (gm b (s.drop i))) ∧ Below W.heap.size W w' := fun i W => by
          rw [cut_from]; exact glob_any b (s.drop i) W hb (by rw [List.length_drop]; omega)
        have e1 : (⟨a.toArray⟩ : ByteArray) ++ ⟨#[42]⟩ ++ ⟨b.toArray⟩ = ⟨(a ++ 42 :: b).toArray⟩ := by
          rw [show (⟨#[42]⟩ : ByteArray) = ⟨[42].toArray⟩ from rfl, ba_append, ba_append, List.append_assoc]; rfl
        have e2 : (⟨a.toArray⟩ : ByteArray) ++ ⟨b.toArray⟩ = ⟨(a ++ b).toArray⟩ := ba_append a b
        have hS : ∀ W, Calls Tryd.prog 13 #[.string ((⟨a.toArray⟩ : ByteArray) ++ ⟨#[42]⟩ ++ ⟨b.toArray⟩), tx s] W fun e w' => e = .returned (.bool (gm (a ++ 42 :: b) s)) ∧ Below W.heap.size W w' := fun W => by
          rw [e1]; exact glob_any _ s W (by simp; omega) hs
        have hO : ∀ W, Calls Tryd.prog 13 #[.string ((⟨a.toArray⟩ : ByteArray) ++ ⟨b.toArray⟩), tx s] W fun e w' => e = .returned (.bool (gm (a ++ b) s)) ∧ Below W.heap.size W w' := fun W => by
          rw [e2]; exact glob_any _ s W (by simp; omega) hs
        clear e1 e2
        go_wp2_with fail
        go_loopw [7, 8] (fun y x wr => ∃ (i : Nat) (v : Bool), i ≤ s.length + 1 ∧ x = .int .i64 i ∧ y = .bool v ∧ Hid (anyUp a b s i = v) ∧ Below w.heap.size w wr) (fun _ x _ => s.length + 1 - (intOf x).toNat)
        case atStart => exact ⟨0, false, by omega, rfl, rfl, rfl, hb1⟩
        case round =>
          obtain ⟨i, v, hi, rfl, rfl, HV, hbr⟩ := hrel
          by_cases hlt : i ≤ s.length
          · have hAi := hA i
            go_wp2_with fail
            go_loopw [7, 9] (fun y x wr => ∃ (k : Nat) (v : Bool), i ≤ k ∧ k ≤ s.length + 1 ∧ x = .int .i64 k ∧ y = .bool v ∧ Hid ((anyUp a b s i || anyAt a b s i k) = v) ∧ Below w.heap.size w wr) (fun _ x _ => s.length + 1 - (intOf x).toNat)
            case atStart => exact ⟨i, v, by omega, by omega, rfl, rfl, by show _ = _; rw [anyAt_self, Bool.or_false, HV.out], hbr⟩
            case round =>
              obtain ⟨k, y, hik, hk, rfl, rfl, HY, hbk⟩ := hrel
              clear HV hbr
              cases y with
              | true =>
                have HR : Hid (anyUp a b s (i + 1) = true) := parts_end hk HY.out
                clear HY
                by_cases hkl : k ≤ s.length
                · go_wp2_with fail
                  go_roundw
                  case rel => exact ⟨i + 1, true, by omega, by go_num, rfl, HR, hbk⟩
                  case measure => simp [intOf]; omega
                · go_wp2_with fail
                  go_roundw
                  case rel => exact ⟨i + 1, true, by omega, by go_num, rfl, HR, hbk⟩
                  case measure => simp [intOf]; omega
              | false =>
                by_cases hkl : k ≤ s.length
                · have hBk := hB k
                  have HS : Hid ((anyUp a b s i || anyAt a b s i (k + 1)) = (gm a (s.take i) && gm b (s.drop k))) := parts_step hik HY.out
                  clear HY
                  generalize gm a (s.take i) = x at *
                  generalize gm b (s.drop k) = z at *
                  cases x with
                  | false =>
                    go_wp2_with fail
                    refine (hAi _).mono ?_
                    rintro e w2 ⟨rfl, hb2⟩
                    have hb3 := Below.chain hbk hb2
                    clear hb2 hbk
                    go_wp2_with fail
                    go_roundw
                    case rel => exact ⟨k + 1, false, by omega, by omega, by go_num, rfl, HS, hb3⟩
                    case measure => simp [intOf]; omega
                  | true =>
                    go_wp2_with fail
                    refine (hAi _).mono ?_
                    rintro e w2 ⟨rfl, hb2⟩
                    have hb3 := Below.chain hbk hb2
                    clear hb2 hbk
                    go_wp2_with fail
                    refine (hBk _).mono ?_
                    rintro e w4 ⟨rfl, hb4⟩
                    have hb5 := Below.chain hb3 hb4
                    clear hb3 hb4
                    go_wp2_with fail
                    go_roundw
                    case rel => exact ⟨k + 1, z, by omega, by omega, by go_num, rfl, HS, hb5⟩
                    case measure => simp [intOf]; omega
                · have HR : Hid (anyUp a b s (i + 1) = false) := by
                    show _ = _
                    rw [anyUp_succ, ← show k = s.length + 1 from by omega]
                    exact HY.out
                  clear HY
                  go_wp2_with fail
                  go_roundw
                  case rel => exact ⟨i + 1, false, by omega, by go_num, rfl, HR, hbk⟩
                  case measure => simp [intOf]; omega
          · have HR : Hid (gm (a ++ 42 :: b) s = v) := by
              show _ = _
              rw [← anyUp_all, ← HV.out, show i = s.length + 1 from by omega]
            clear HV
            go_wp2_with fail
            go_loopw [10, 11] (fun y x wr => ∃ (i : Nat) (u : Bool), i ≤ s.length + 1 ∧ x = .int .i64 i ∧ y = .bool u ∧ Hid (oneUp a b s i = u) ∧ Below w.heap.size w wr) (fun _ x _ => s.length + 1 - (intOf x).toNat)
            case atStart => exact ⟨0, false, by omega, rfl, rfl, rfl, hbr⟩
            case round =>
              obtain ⟨k, u, hk, rfl, rfl, HU, hbk⟩ := hrel
              clear hbr
              by_cases hkl : k ≤ s.length
              · have hAk := hA k
                have hBk := hB k
                have HS : Hid (oneUp a b s (k + 1) = (u || gm a (s.take k) && gm b (s.drop k))) := by
                  show _ = _
                  rw [oneUp_succ, HU.out]; rfl
                clear HU
                generalize gm a (s.take k) = x at *
                generalize gm b (s.drop k) = z at *
                cases u with
                | true =>
                  go_wp2_with fail
                  go_roundw
                  case rel => exact ⟨k + 1, true, by omega, by go_num, rfl, HS, hbk⟩
                  case measure => simp [intOf]; omega
                | false =>
                  cases x with
                  | false =>
                    go_wp2_with fail
                    refine (hAk _).mono ?_
                    rintro e w2 ⟨rfl, hb2⟩
                    have hb3 := Below.chain hbk hb2
                    clear hb2 hbk
                    go_wp2_with fail
                    go_roundw
                    case rel => exact ⟨k + 1, false, by omega, by go_num, rfl, HS, hb3⟩
                    case measure => simp [intOf]; omega
                  | true =>
                    go_wp2_with fail
                    refine (hAk _).mono ?_
                    rintro e w2 ⟨rfl, hb2⟩
                    have hb3 := Below.chain hbk hb2
                    clear hb2 hbk
                    go_wp2_with fail
                    refine (hBk _).mono ?_
                    rintro e w4 ⟨rfl, hb4⟩
                    have hb5 := Below.chain hb3 hb4
                    clear hb3 hb4
                    go_wp2_with fail
                    go_roundw
                    case rel => exact ⟨k + 1, z, by omega, by go_num, rfl, HS, hb5⟩
                    case measure => simp [intOf]; omega
              · have HO : Hid (gm (a ++ b) s = u) := by
                  show _ = _
                  rw [← oneUp_all, ← HU.out, show k = s.length + 1 from by omega]
                clear HU
                generalize gm (a ++ 42 :: b) s = x at *
                generalize gm (a ++ b) s = z at *
                obtain rfl : x = v := HR.out
                obtain rfl : z = u := HO.out
                clear HO HR
                go_wp2_with fail
                refine (hS _).mono ?_
                rintro e w2 ⟨rfl, hb2⟩
                have hb3 := Below.chain hbk hb2
                clear hb2 hbk
                cases x <;> cases z <;> (
                  go_wp2_with fail
                  refine (hO _).mono ?_
                  rintro e w4 ⟨rfl, hb4⟩
                  go_wp2_with fail
                  go_ret
                  exact ⟨rfl, Below.chain hb3 hb4⟩)
      · have h3' : (30 : Int) < s.length := by omega
        go_wp2_with fail
        go_ret
        exact ⟨rfl, hb1⟩
    · have h2' : (20 : Int) < b.length := by omega
      go_wp2_with fail
      go_ret
      exact ⟨rfl, hb1⟩
  · have h1' : (20 : Int) < a.length := by omega
    go_wp2_with fail
    go_ret
    exact ⟨rfl, hb1⟩
end Go.Proofs.YtcalbghoacedhaaDoor
