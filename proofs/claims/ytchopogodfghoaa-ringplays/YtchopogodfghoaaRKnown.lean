/- known: the document's own example comes out as it is told. -/
import Derived.Test.YtchopogodfghoaaRAll
namespace Go.Proofs.Ytchopogodfghoaa
open Go.RowKit

/-- A window as it is reached: in memory, and as the document has it. -/
structure St (w : World) (b : Nat) (l : List Smp) (k now : Int) : Prop where
  m : Rl w b l k now
  f : Wf l k now
theorem St.later {w w' : World} {b : Nat} {l : List Smp} {k now : Int} (h : St w b l k now) (hb : Below w.heap.size w w') : St w' b l k now := ⟨h.m.later hb, h.f⟩
theorem St.kept {w w' : World} {b : Nat} {l : List Smp} {k now : Int} (h : St w b l k now) {row : Option Nat} (hg : w.grownBy w' row) (hne : some b ≠ row) : St w' b l k now := ⟨h.m.kept hg hne, h.f⟩
theorem new_st (n : Int) (w : World) : Calls Try.prog 9 #[.int .i64 n] w fun e w' => e = .returned (.pointer (some ⟨w.heap.size, 0, none⟩)) ∧ St w' w.heap.size [] (clamp n) 0 ∧ Below w.heap.size w w' :=
  (new_any n w).mono fun _ _ ⟨h1, h2, h3⟩ => ⟨h1, ⟨Rl.new h2, Wf.none (clamp_range n) ⟨by omega, by omega⟩⟩, h3⟩
theorem adv_st (b : Nat) (l : List Smp) (k now n : Int) (w : World) (h : St w b l k now) :
    Calls Try.prog 10 #[.pointer (some ⟨b, 0, none⟩), .int .i64 n] w fun e w' => e = .returned (.tuple #[]) ∧ St w' b (fg (onw now n - k) l) k (onw now n) ∧ w.grownBy w' (some b) :=
  (advance_any b l k now n w h.m h.f).mono fun _ _ ⟨h1, h2, h3⟩ => ⟨h1, ⟨h2, h.f.advance n⟩, h3⟩
theorem add_st (b : Nat) (l : List Smp) (k now : Int) (s : Smp) (w : World) (h : St w b l k now) (hr : R64 s.2.2) :
    Calls Try.prog 12 #[.pointer (some ⟨b, 0, none⟩), sv s] w fun e w' => e = .returned (.int .i64 (adE l k now s.1)) ∧ St w' b (adL l k now s) k now ∧ w.grownBy w' (some b) :=
  (add_any b l k now s w h.m h.f hr).mono fun _ _ ⟨h1, h2, h3⟩ => ⟨h1, ⟨h2, h.f.add s hr⟩, h3⟩

theorem kn_of (n : Int) (m : Int) (h : fOf n = some m) (hn : R64 n) (w : World) : Calls Try.prog 20 #[.int .i64 n] w fun e w' => e = .returned (.agg #[.bool false, .int .i64 m]) ∧ Below w.heap.size w w' := by
  have := of_any n w hn
  rw [h] at this
  exact this
theorem kn1 : fg (onw 0 8 - clamp 5) [] = [] := rfl
theorem kn2 : onw 0 8 = 8 := by decide +kernel
theorem kn3 : clamp 5 = 5 := by decide +kernel
theorem kn4 : adE [] 5 8 3 = 152 := by decide +kernel
theorem kn5 : adL [] 5 8 (3, false, 1000000) = [] := by decide +kernel
theorem kn6 : adE [] 5 8 7 = 0 := by decide +kernel
theorem kn7 : adL [] 5 8 (7, false, 2000000) = [(7, false, 2000000)] := by decide +kernel
theorem kn8 : adE [(7, false, 2000000)] 5 8 7 = 150 := by decide +kernel
theorem kn9 : adL [(7, false, 2000000)] 5 8 (7, false, 2000000) = [(7, false, 2000000)] := by decide +kernel
theorem kn10 : fSum (cnts (vls [(7, false, 2000000)])) = some 2000000 := by decide +kernel
theorem r64_lit {n : Int} (h : (decide (-9223372036854775808 ≤ n) && decide (n ≤ 9223372036854775807)) = true) : R64 n := by
  rw [Bool.and_eq_true, decide_eq_true_eq, decide_eq_true_eq] at h
  exact h
theorem sumK (b : Nat) (w : World) (h : St w b [(7, false, 2000000)] 5 8) : Calls Try.prog 18 #[.pointer (some ⟨b, 0, none⟩)] w fun e w' => e = .returned (.agg #[.bool false, .int .i64 2000000]) ∧ Below w.heap.size w w' := by
  have := sumR_any b _ _ _ w h.m h.f.rg
  rw [kn10] at this
  exact this
theorem lastK (b : Nat) (w : World) (h : St w b [(7, false, 2000000)] 5 8) : Calls Try.prog 24 #[.pointer (some ⟨b, 0, none⟩)] w fun e w' => e = .returned (.tuple #[.agg #[.int .i64 7, .bool false, .int .i64 2000000], .bool true]) ∧ Below w.heap.size w w' := last_any b _ _ _ w h.m
set_option maxHeartbeats 2000000 in
theorem known_any (w : World) : Calls Try.prog 8 #[] w fun e w' => e = .returned (.bool true) ∧ Below w.heap.size w w' := by
  go_enter Try.func8, Try.ntmps8
  go_wp2_with fail
  refine (new_st 5 _).mono ?_
  rintro e w1 ⟨rfl, hs1, hb1⟩
  rw [kn3] at hs1
  go_wp2_with fail
  refine (adv_st _ _ _ _ 8 _ hs1).mono ?_
  rintro e w2 ⟨rfl, hs2, hg2⟩
  rw [kn2] at hs2
  have hs2' : St w2 w.heap.size [] 5 8 := hs2
  have hb2 := grown_above hb1 hg2 hb1.size (Nat.le_refl _)
  clear hs1 hs2 hg2 hb1
  go_wp2_with fail
  refine (kn_of 1 1000000 (by decide +kernel) (r64_lit rfl) _).mono ?_
  rintro e w3 ⟨rfl, hb3⟩
  have hs3 := hs2'.later hb3
  have hb3' := Below.chain hb2 hb3
  clear hs2' hb2 hb3
  go_wp2_with fail
  refine (add_st _ _ _ _ (3, false, 1000000) _ hs3 (r64_lit rfl)).mono ?_
  rw [kn4, kn5]
  rintro e w4 ⟨rfl, hs4, hg4⟩
  have hb4 := grown_above hb3' hg4 hb3'.size (Nat.le_refl _)
  clear hs3 hb3' hg4
  go_wp2_with fail
  refine (kn_of 2 2000000 (by decide +kernel) (r64_lit rfl) _).mono ?_
  rintro e w5 ⟨rfl, hb5⟩
  have hs5 := hs4.later hb5
  have hb5' := Below.chain hb4 hb5
  clear hs4 hb4 hb5
  go_wp2_with fail
  refine (add_st _ _ _ _ (7, false, 2000000) _ hs5 (r64_lit rfl)).mono ?_
  rw [kn6, kn7]
  rintro e w6 ⟨rfl, hs6, hg6⟩
  have hb6 := grown_above hb5' hg6 hb5'.size (Nat.le_refl _)
  clear hs5 hb5' hg6
  go_wp2_with fail
  refine (kn_of 2 2000000 (by decide +kernel) (r64_lit rfl) _).mono ?_
  rintro e w7 ⟨rfl, hb7⟩
  have hs7 := hs6.later hb7
  have hb7' := Below.chain hb6 hb7
  clear hs6 hb6 hb7
  go_wp2_with fail
  refine (add_st _ _ _ _ (7, false, 2000000) _ hs7 (r64_lit rfl)).mono ?_
  rw [kn8, kn9]
  rintro e w8 ⟨rfl, hs8, hg8⟩
  have hb8 := grown_above hb7' hg8 hb7'.size (Nat.le_refl _)
  clear hs7 hb7' hg8
  go_wp2_with fail
  refine (lastK _ _ hs8).mono ?_
  rintro e w9 ⟨rfl, hb9⟩
  have hs9 := (hs8.later hb9).later (bal (Below.refl _ _) (.cells #[.int .i64 7, .bool false, .int .i64 2000000] 38))
  have hb9' := bal (Below.chain hb8 hb9) (.cells #[.int .i64 7, .bool false, .int .i64 2000000] 38)
  have hx := BoxS.new w9 (7, false, 2000000)
  clear hs8 hb8 hb9
  go_wp2_with fail
  refine (len_any _ _ _ _ _ hs9.m).mono ?_
  rintro e w10 ⟨rfl, rfl⟩
  go_wp2_with fail
  refine (sumK _ _ hs9).mono ?_
  rintro e w11 ⟨rfl, hb11⟩
  have hx11 := (hx.later hb11).c0
  go_wp2_with fail
  refine (kn_of 2 2000000 (by decide +kernel) (r64_lit rfl) _).mono ?_
  rintro e w12 ⟨rfl, hb12⟩
  go_wp2
  go_ret
  exact ⟨rfl, Below.chain (Below.chain hb9' hb11) hb12⟩
end Go.Proofs.Ytchopogodfghoaa
