/- slices' rotate on rows of pairs. -/
import Derived.Test.YtldlhpokkidmlaaGreatDoorSwapR
namespace Go.Proofs.YtldlhpokkidmlaaGreatDoor
open Go.RowKit

set_option maxRecDepth 100000 in
set_option maxHeartbeats 2000000 in
theorem rotate_any (g cap base N : Nat) (P X Y S : List Pr) (a m b : Nat) (f : Value) (w0 w : World) (hX0 : 0 < X.length) (hY0 : 0 < Y.length) (ha : P.length = a) (hm : a + X.length = m) (hb : m + Y.length = b) (hN : N ≤ 1000000)
    (ho : Own w base (.slice (some ⟨g, 0, none⟩) N cap) (P ++ (X ++ (Y ++ S)))) (hbw : Below base w0 w) :
    Calls Tryz.prog 96 #[.slice (some ⟨g, 0, none⟩) N cap, .int .i64 a, .int .i64 m, .int .i64 b, f] w fun e w' => e = .returned (.tuple #[]) ∧ Own w' base (.slice (some ⟨g, 0, none⟩) N cap) (P ++ (Y ++ (X ++ S))) ∧ Below base w0 w' := by
  have hlen : b + S.length = N := by
    obtain ⟨_, _, e, _, _⟩ := ho.slice
    have := (Value.slice.inj e).2.1
    simp only [List.length_append] at this
    omega
  have hbN : b ≤ N := by omega
  obtain ⟨T, HT⟩ : ∃ T, Hid (T = P ++ (Y ++ (X ++ S))) := ⟨_, rfl⟩
  rw [← HT.out]
  obtain ⟨i0, hi0⟩ : ∃ i, Hid (X.length = i) := ⟨_, rfl⟩
  obtain ⟨j0, hj0⟩ : ∃ j, Hid (Y.length = j) := ⟨_, rfl⟩
  rw [hi0.out] at hX0 hm
  rw [hj0.out] at hY0 hb
  have hw1 : IntKind.i64.wrap ((m : Int) - (a : Int)) = (i0 : Int) := by rw [IntKind.wrap_i64]; omega
  have hw2 : IntKind.i64.wrap ((b : Int) - (m : Int)) = (j0 : Int) := by rw [IntKind.wrap_i64]; omega
  have HP : Hid (P.length + i0 = m) := by show _ = _; omega
  have hij : m + j0 ≤ N := by omega
  have hmN : m ≤ N := by omega
  clear hlen ha hm hb hbN
  go_enter Tryz.func96, Tryz.ntmps96
  go_wp2_with fail
  clear hw1 hw2
  go_loopw [10, 11] (fun u v wr => ∃ (i j : Nat) (P X Y S : List Pr), 0 < i ∧ 0 < j ∧ u = .int .i64 i ∧ v = .int .i64 j ∧ Hid (P.length + i = m) ∧ Hid (X.length = i) ∧ Hid (Y.length = j) ∧ i ≤ m ∧ m + j ≤ N ∧ Hid (T = P ++ (Y ++ (X ++ S))) ∧ Own wr base (.slice (some ⟨g, 0, none⟩) N cap) (P ++ (X ++ (Y ++ S))) ∧ Below base w0 wr) (fun u v _ => (intOf u).toNat + (intOf v).toNat)
  case atStart => exact ⟨i0, j0, P, X, Y, S, hX0, hY0, rfl, rfl, HP, hi0, hj0, by have := HP.out; omega, hij, HT, ho, hbw⟩
  case round =>
    clear HP hi0 hj0 HT ho hbw hX0 hY0 hij
    clear X Y P S
    obtain ⟨i, j, P, X, Y, S, hi, hj, rfl, rfl, HP, HX, HY, him, hmj, HT, O, B⟩ := hrel
    by_cases hne : i = j
    · have hne' : ((i : Int) != (j : Int)) = false := by rw [bne_eq_false_iff_eq]; omega
      have hw1 : IntKind.i64.wrap ((m : Int) - (i : Int)) = ((m - i : Nat) : Int) := by rw [IntKind.wrap_i64]; omega
      have hs := swapRange_any g cap base N P X [] Y S (m - i) m i f w0 wr HX.out (by rw [HY.out, hne]) (by have := HP.out; omega) (by simp; omega) hN (by simpa using O) B
      have HS := fun (_ : Unit) => hs
      clear hs O B HX HY HP hne
      generalize m - i = a1 at *
      go_wp2_with fail
      refine (HS ()).mono ?_
      rintro e w1 ⟨rfl, o1, b1⟩
      go_wp2_with fail
      go_end0
      exact ⟨rfl, by rw [HT.out]; simpa using o1, b1⟩
    · have hne' : ((i : Int) != (j : Int)) = true := by rw [bne_iff_ne]; omega
      by_cases hgt : j < i
      · have hgt' : (j : Int) < (i : Int) := by omega
        have hw1 : IntKind.i64.wrap ((m : Int) - (i : Int)) = ((m - i : Nat) : Int) := by rw [IntKind.wrap_i64]; omega
        have hw2 : IntKind.i64.wrap ((i : Int) - (j : Int)) = ((i - j : Nat) : Int) := by rw [IntKind.wrap_i64]; omega
        have eX : X.take j ++ X.drop j = X := List.take_append_drop j X
        have l1 : (X.take j).length = j := by rw [List.length_take, HX.out]; omega
        have l2 : (X.drop j).length = i - j := by rw [List.length_drop, HX.out]
        have hs := swapRange_any g cap base N P (X.take j) (X.drop j) Y S (m - i) m j f w0 wr l1 HY.out (by have := HP.out; omega) (by rw [l2]; omega) hN (by rw [← List.append_assoc (X.take j), eX]; exact O) B
        have HS := fun (_ : Unit) => hs
        have HP2 : Hid ((P ++ Y).length + (i - j) = m) := by show _ = _; have := HP.out; have := HY.out; simp; omega
        have HT2 : Hid (T = (P ++ Y) ++ (X.take j ++ (X.drop j ++ S))) := by show _ = _; rw [HT.out, ← List.append_assoc (X.take j), eX]; simp
        have L1 : Hid ((X.take j).length = j) := l1
        have L2 : Hid ((X.drop j).length = i - j) := l2
        have hd : 0 < i - j := by omega
        have hd2 : i - j ≤ m := by omega
        have hd3 : i - j + j < i + j := by omega
        clear hs O B HX HY HP HT eX l1 l2 hne
        generalize m - i = a1 at *
        generalize i - j = d at *
        generalize X.take j = X1 at *
        generalize X.drop j = X2 at *
        go_wp2_with fail
        refine (HS ()).mono ?_
        rintro e w1 ⟨rfl, o1, b1⟩
        clear HS
        go_wp2_with fail
        go_roundw
        case rel => exact ⟨d, j, P ++ Y, X2, X1, S, hd, hj, rfl, rfl, HP2, L2, L1, hd2, hmj, HT2, by simpa using o1, b1⟩
        case measure => simp only [intOf, Int.toNat_natCast]; omega
      · have hgt' : ¬ (j : Int) < (i : Int) := by omega
        have hw1 : IntKind.i64.wrap ((m : Int) - (i : Int)) = ((m - i : Nat) : Int) := by rw [IntKind.wrap_i64]; omega
        have hw2 : IntKind.i64.wrap ((j : Int) - (i : Int)) = ((j - i : Nat) : Int) := by rw [IntKind.wrap_i64]; omega
        have hw3 : IntKind.i64.wrap ((m : Int) + (j : Int)) = ((m + j : Nat) : Int) := by rw [IntKind.wrap_i64]; omega
        have hw4 : IntKind.i64.wrap (((m + j : Nat) : Int) - (i : Int)) = ((m + j - i : Nat) : Int) := by rw [IntKind.wrap_i64]; omega
        have eY : Y.take (j - i) ++ Y.drop (j - i) = Y := List.take_append_drop _ Y
        have l1 : (Y.take (j - i)).length = j - i := by rw [List.length_take, HY.out]; omega
        have l2 : (Y.drop (j - i)).length = i := by rw [List.length_drop, HY.out]; omega
        have hs := swapRange_any g cap base N P X (Y.take (j - i)) (Y.drop (j - i)) S (m - i) (m + j - i) i f w0 wr HX.out l2 (by have := HP.out; omega) (by rw [l1]; omega) hN (by rw [← List.append_assoc (Y.take (j - i)), eY]; exact O) B
        have HS := fun (_ : Unit) => hs
        have HT2 : Hid (T = P ++ (Y.take (j - i) ++ (Y.drop (j - i) ++ (X ++ S)))) := by show _ = _; rw [HT.out, ← List.append_assoc (Y.take (j - i)), eY]
        have L1 : Hid ((Y.take (j - i)).length = j - i) := l1
        have L2 : Hid ((Y.drop (j - i)).length = i) := l2
        have hd : 0 < j - i := by omega
        have hd2 : m + (j - i) ≤ N := by omega
        have hd3 : i + (j - i) < i + j := by omega
        clear hs O B HX HY HT eY l1 l2 hne
        generalize m - i = a1 at *
        generalize m + j - i = b1 at *
        generalize hq : m + j = mj at *
        generalize j - i = d at *
        generalize Y.take d = Y1 at *
        generalize Y.drop d = Y2 at *
        clear hq
        go_wp2_with fail
        refine (HS ()).mono ?_
        rintro e w1 ⟨rfl, o1, b1⟩
        clear HS
        go_wp2_with fail
        go_roundw
        case rel => exact ⟨i, d, P, Y2, Y1, X ++ S, hi, hd, rfl, rfl, HP, L2, L1, him, hd2, HT2, o1, b1⟩
        case measure => simp only [intOf, Int.toNat_natCast]; omega
end Go.Proofs.YtldlhpokkidmlaaGreatDoor
