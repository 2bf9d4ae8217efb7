/- The two texts that known asks of, and what is printed of the first: nothing of the program is run here. -/
import Derived.Test.YtajbjbnfklllkaaGreatDoorXPrint
namespace Go.Proofs.YtajbjbnfklllkaaGreatDoor
open Go.RowKit

theorem Tk.put_mk (a b : Int) (c : Str) (d : Bool) (e f g : Int) : Tk.put ⟨a, b, c, d, e, f⟩ g = ⟨a, g, c, d, e, f⟩ := rfl
theorem step_ok {n : Nat} {s r : Str} {x : Tk} {k : Nat} {l : List Tk} (hs : s ≠ []) (ht : tok s = some (x, k)) (hk : 1 ≤ k) (hr : lead (s.drop k) = r) (h : scanG n r = .inr l) : scanG n s = .inr (x.put ((n - s.length : Nat) : Int) :: l) := by
  rw [scanG_some hs ht hk, hr, h]
  rfl
theorem step_bad {n : Nat} {s r : Str} {x : Tk} {k p : Nat} (hs : s ≠ []) (ht : tok s = some (x, k)) (hk : 1 ≤ k) (hr : lead (s.drop k) = r) (h : scanG n r = .inl p) : scanG n s = .inl p := by
  rw [scanG_some hs ht hk, hr, h]
  rfl
theorem kn9 : scanG 18 [] = .inr [] := scanG_nil _
theorem kn8 : scanG 18 [49, 46, 53] = .inr [⟨2, 15, [], false, 1500000, 0⟩] := step_ok (x := ⟨2, 0, [], false, 1500000, 0⟩) (k := 3) (r := []) (by simp) (by rfl) (by omega) (by rfl) kn9
theorem kn7 : scanG 18 [62, 61, 32, 49, 46, 53] = .inr [⟨5, 12, [62, 61], false, 0, 0⟩, ⟨2, 15, [], false, 1500000, 0⟩] := step_ok (x := ⟨5, 0, [62, 61], false, 0, 0⟩) (k := 2) (r := [49, 46, 53]) (by simp) (by rfl) (by omega) (by rfl) kn8
theorem kn6 : scanG 18 [41, 32, 62, 61, 32, 49, 46, 53] = .inr [⟨5, 10, [41], false, 0, 0⟩, ⟨5, 12, [62, 61], false, 0, 0⟩, ⟨2, 15, [], false, 1500000, 0⟩] := step_ok (x := ⟨5, 0, [41], false, 0, 0⟩) (k := 1) (r := [62, 61, 32, 49, 46, 53]) (by simp) (by rfl) (by omega) (by rfl) kn7
theorem kn5 : scanG 18 [93, 41, 32, 62, 61, 32, 49, 46, 53] = .inr [⟨5, 9, [93], false, 0, 0⟩, ⟨5, 10, [41], false, 0, 0⟩, ⟨5, 12, [62, 61], false, 0, 0⟩, ⟨2, 15, [], false, 1500000, 0⟩] := step_ok (x := ⟨5, 0, [93], false, 0, 0⟩) (k := 1) (r := [41, 32, 62, 61, 32, 49, 46, 53]) (by simp) (by rfl) (by omega) (by rfl) kn6
theorem kn4 : scanG 18 [53, 116, 93, 41, 32, 62, 61, 32, 49, 46, 53] = .inr [⟨3, 7, [], false, 0, 5⟩, ⟨5, 9, [93], false, 0, 0⟩, ⟨5, 10, [41], false, 0, 0⟩, ⟨5, 12, [62, 61], false, 0, 0⟩, ⟨2, 15, [], false, 1500000, 0⟩] := step_ok (x := ⟨3, 0, [], false, 0, 5⟩) (k := 2) (r := [93, 41, 32, 62, 61, 32, 49, 46, 53]) (by simp) (by rfl) (by omega) (by rfl) kn5
theorem kn3 : scanG 18 [91, 53, 116, 93, 41, 32, 62, 61, 32, 49, 46, 53] = .inr [⟨5, 6, [91], false, 0, 0⟩, ⟨3, 7, [], false, 0, 5⟩, ⟨5, 9, [93], false, 0, 0⟩, ⟨5, 10, [41], false, 0, 0⟩, ⟨5, 12, [62, 61], false, 0, 0⟩, ⟨2, 15, [], false, 1500000, 0⟩] := step_ok (x := ⟨5, 0, [91], false, 0, 0⟩) (k := 1) (r := [53, 116, 93, 41, 32, 62, 61, 32, 49, 46, 53]) (by simp) (by rfl) (by omega) (by rfl) kn4
theorem kn2 : scanG 18 [120, 91, 53, 116, 93, 41, 32, 62, 61, 32, 49, 46, 53] = .inr [⟨1, 5, [120], false, 0, 0⟩, ⟨5, 6, [91], false, 0, 0⟩, ⟨3, 7, [], false, 0, 5⟩, ⟨5, 9, [93], false, 0, 0⟩, ⟨5, 10, [41], false, 0, 0⟩, ⟨5, 12, [62, 61], false, 0, 0⟩, ⟨2, 15, [], false, 1500000, 0⟩] := step_ok (x := ⟨1, 0, [120], false, 0, 0⟩) (k := 1) (r := [91, 53, 116, 93, 41, 32, 62, 61, 32, 49, 46, 53]) (by simp) (by rfl) (by omega) (by rfl) kn3
theorem kn1 : scanG 18 [40, 120, 91, 53, 116, 93, 41, 32, 62, 61, 32, 49, 46, 53] = .inr [⟨5, 4, [40], false, 0, 0⟩, ⟨1, 5, [120], false, 0, 0⟩, ⟨5, 6, [91], false, 0, 0⟩, ⟨3, 7, [], false, 0, 5⟩, ⟨5, 9, [93], false, 0, 0⟩, ⟨5, 10, [41], false, 0, 0⟩, ⟨5, 12, [62, 61], false, 0, 0⟩, ⟨2, 15, [], false, 1500000, 0⟩] := step_ok (x := ⟨5, 0, [40], false, 0, 0⟩) (k := 1) (r := [120, 91, 53, 116, 93, 41, 32, 62, 61, 32, 49, 46, 53]) (by simp) (by rfl) (by omega) (by rfl) kn2
theorem kn0 : scanG 18 [114, 97, 116, 101, 40, 120, 91, 53, 116, 93, 41, 32, 62, 61, 32, 49, 46, 53] = .inr [⟨1, 0, [114, 97, 116, 101], false, 0, 0⟩, ⟨5, 4, [40], false, 0, 0⟩, ⟨1, 5, [120], false, 0, 0⟩, ⟨5, 6, [91], false, 0, 0⟩, ⟨3, 7, [], false, 0, 5⟩, ⟨5, 9, [93], false, 0, 0⟩, ⟨5, 10, [41], false, 0, 0⟩, ⟨5, 12, [62, 61], false, 0, 0⟩, ⟨2, 15, [], false, 1500000, 0⟩] := step_ok (x := ⟨1, 0, [114, 97, 116, 101], false, 0, 0⟩) (k := 4) (r := [40, 120, 91, 53, 116, 93, 41, 32, 62, 61, 32, 49, 46, 53]) (by simp) (by rfl) (by omega) (by rfl) kn1
def kS : Str := [114, 97, 116, 101, 40, 120, 91, 53, 116, 93, 41, 32, 62, 61, 32, 49, 46, 53]
def kL : List Tk := [⟨1, 0, [114, 97, 116, 101], false, 0, 0⟩, ⟨5, 4, [40], false, 0, 0⟩, ⟨1, 5, [120], false, 0, 0⟩, ⟨5, 6, [91], false, 0, 0⟩, ⟨3, 7, [], false, 0, 5⟩, ⟨5, 9, [93], false, 0, 0⟩, ⟨5, 10, [41], false, 0, 0⟩, ⟨5, 12, [62, 61], false, 0, 0⟩, ⟨2, 15, [], false, 1500000, 0⟩, ⟨0, 18, [], false, 0, 0⟩]
theorem k_scan : scE kS = 0 ∧ scP kS = 0 ∧ scL kS = kL := sc_ok (l := [⟨1, 0, [114, 97, 116, 101], false, 0, 0⟩, ⟨5, 4, [40], false, 0, 0⟩, ⟨1, 5, [120], false, 0, 0⟩, ⟨5, 6, [91], false, 0, 0⟩, ⟨3, 7, [], false, 0, 5⟩, ⟨5, 9, [93], false, 0, 0⟩, ⟨5, 10, [41], false, 0, 0⟩, ⟨5, 12, [62, 61], false, 0, 0⟩, ⟨2, 15, [], false, 1500000, 0⟩]) (by decide) kn0
theorem kb1 : scanG 3 [36] = .inl 2 := scanG_none (by simp) (by rfl)
theorem kb0 : scanG 3 [97, 32, 36] = .inl 2 := step_bad (x := ⟨1, 0, [97], false, 0, 0⟩) (k := 1) (r := [36]) (by simp) (by rfl) (by omega) (by rfl) kb1
theorem k_bad : scE [97, 32, 36] = 70 ∧ scP [97, 32, 36] = 2 ∧ scL [97, 32, 36] = [] := sc_bad (p := 2) (by decide) kb0
theorem k_five : Lib.itoa 5 ++ [116] = [53, 116] := by
  show Lib.itoa ((5 : Nat) : Int) ++ [116] = _
  rw [Lib.itoa_nonneg, Lib.decDigits_one (by omega)]
  rfl
theorem k_half : Fx.fPrint (Fx.cnt false 1500000) = [49, 46, 53] := by
  have e : Lib.decDigits 1500000 = [49, 53, 48, 48, 48, 48, 48] := by simp [Lib.decDigits]
  have e1 : Lib.decDigits 1 = [49] := by simp [Lib.decDigits]
  show [] ++ (Lib.decDigits (1500000 / 1000000) ++ (if 1500000 % 1000000 = 0 then [] else 46 :: Lib.trimRightB (Lib.decDigits (1000000 + 1500000 % 1000000)).tail 48)) = _
  rw [show 1500000 / 1000000 = 1 by decide, show 1000000 + 1500000 % 1000000 = 1500000 by decide, e, e1]
  rfl
theorem k_print : prL kL = [114, 97, 116, 101, 32, 40, 32, 120, 32, 91, 32, 53, 116, 32, 93, 32, 41, 32, 62, 61, 32, 49, 46, 53] := by
  have h5 := k_five
  have h7 := k_half
  unfold prL txs kL
  simp only [List.map_cons, List.map_nil]
  rw [show prT ⟨1, 0, [114, 97, 116, 101], false, 0, 0⟩ = [114, 97, 116, 101] from rfl]
  rw [show prT ⟨5, 4, [40], false, 0, 0⟩ = [40] from rfl]
  rw [show prT ⟨1, 5, [120], false, 0, 0⟩ = [120] from rfl]
  rw [show prT ⟨5, 6, [91], false, 0, 0⟩ = [91] from rfl]
  rw [show prT ⟨3, 7, [], false, 0, 5⟩ = [53, 116] from h5]
  rw [show prT ⟨5, 9, [93], false, 0, 0⟩ = [93] from rfl]
  rw [show prT ⟨5, 10, [41], false, 0, 0⟩ = [41] from rfl]
  rw [show prT ⟨5, 12, [62, 61], false, 0, 0⟩ = [62, 61] from rfl]
  rw [show prT ⟨2, 15, [], false, 1500000, 0⟩ = [49, 46, 53] from h7]
  rw [show prT ⟨0, 18, [], false, 0, 0⟩ = [] from rfl]
  rfl
end Go.Proofs.YtajbjbnfklllkaaGreatDoor
