/- Texts that the others lean on. -/
import Derived.Test.YtjgckfcocmhnhaaGreatDoorKH1
import Derived.Deep.AppendLies
namespace Go.Proofs.YtjgckfcocmhnhaaGreatDoor.Hy
open Go.RowKit
theorem Fst.unique {S : Nat → Bool} {n : Nat} {o o' : Option Nat} (h : Fst S n o) (h' : Fst S n o') : o = o' := by
 cases o with
 | none => cases o' with
  | none => rfl
  | some j => have := h j h'.1; rw [h'.2.1] at this; cases this
 | some i => cases o' with
  | none => have := h' i h.1; rw [h.2.1] at this; cases this
  | some j =>
   rcases Nat.lt_trichotomy i j with e | e | e
   ·
    have := h'.2.2 i e; rw [h.2.1] at this; cases this
   ·
    rw [e]
   ·
    have := h.2.2 j e; rw [h'.2.1] at this; cases this
set_option maxHeartbeats 2000000 in
theorem add_30 (hb : Nat) (now : Int) (ao : Option Addr) (n cap : Nat) (rs : List Rec) (q : Value) (t : Int) (xo : Bool) (xn : Int) (w : World) (h : Hm w hb now ao n cap rs)
  (his : ∀ W, Below w.heap.size w W → Calls Tryz.prog 37 #[q] W fun e w' => e = .returned (.bool false) ∧ Below W.heap.size W w') :
  Calls Tryz.prog 14 #[.pointer (some ⟨hb, 0, none⟩), q, sv (t, xo, xn)] w fun e w' => e = .returned (.int .i64 30) ∧ Below w.heap.size w w' := by
 have hb0 := bal (Below.refl _ w) (.cells #[.int .i64 t, .bool xo, .int .i64 xn] 35)
 have hB := BoxS.new w (t, xo, xn)
 have HM : Hid (∀ W, Below w.heap.size w W → Hm W hb now ao n cap rs) := fun W hW => h.later hW
 have hnow := h.now_
 have hn6 := h.n_
 have EW : Hid (wrap64 (now - 100) = now - 100) := by show _ = _; unfold wrap64; omega
 have hw0 := (HM.out _ hb0).c0
 clear h
 go_enter Tryz.func14, Tryz.ntmps14
 go_wp2_with fail
 refine (his _ hb0).mono ?_
 rintro e w1 ⟨rfl, hb1⟩
 have hb2 := Below.chain hb0 hb1
 go_wp2
 go_ret
 exact ⟨rfl, hb2⟩
set_option maxHeartbeats 4000000 in
theorem add_152 (hb : Nat) (now : Int) (ao : Option Addr) (n cap : Nat) (rs : List Rec) (q : Value) (t : Int) (xo : Bool) (xn : Int) (w : World) (h : Hm w hb now ao n cap rs)
  (his : ∀ W, Below w.heap.size w W → Calls Tryz.prog 37 #[q] W fun e w' => e = .returned (.bool true) ∧ Below W.heap.size W w') (ht : t < 0 ∨ now < t ∨ t ≤ now - 100) :
  Calls Tryz.prog 14 #[.pointer (some ⟨hb, 0, none⟩), q, sv (t, xo, xn)] w fun e w' => e = .returned (.int .i64 152) ∧ Below w.heap.size w w' := by
 have hb0 := bal (Below.refl _ w) (.cells #[.int .i64 t, .bool xo, .int .i64 xn] 35)
 have hB := BoxS.new w (t, xo, xn)
 have HM : Hid (∀ W, Below w.heap.size w W → Hm W hb now ao n cap rs) := fun W hW => h.later hW
 have hnow := h.now_
 have hn6 := h.n_
 have EW : Hid (wrap64 (now - 100) = now - 100) := by show _ = _; unfold wrap64; omega
 have hw0 := (HM.out _ hb0).c0
 clear h
 by_cases c1 : t < 0
 ·
  have d1 : decide (t < 0) = true := decide_eq_true (by omega)
  go_enter Tryz.func14, Tryz.ntmps14
  go_wp2_with fail
  refine (his _ hb0).mono ?_
  rintro e w1 ⟨rfl, hb1⟩
  have hb2 := Below.chain hb0 hb1
  have hx1 := hB.later hb1
  have hm1 := (HM.out _ hb2).c0
  clear hw0 hb0 hb1 hB
  obtain ⟨x0, x1, x2, g0, g1, g2⟩ := id hx1
  dsimp only at x0 x1 x2
  have e1 := EW.out
  go_wp2_with fail
  go_quiet (fail)
  go_wp2
  go_ret
  exact ⟨rfl, below_drewN hb2 _⟩
 ·
  by_cases c2 : now < t
  ·
   have d1 : decide (t < 0) = false := decide_eq_false (by omega)
   have d2 : decide (now < t) = true := decide_eq_true (by omega)
   go_enter Tryz.func14, Tryz.ntmps14
   go_wp2_with fail
   refine (his _ hb0).mono ?_
   rintro e w1 ⟨rfl, hb1⟩
   have hb2 := Below.chain hb0 hb1
   have hx1 := hB.later hb1
   have hm1 := (HM.out _ hb2).c0
   clear hw0 hb0 hb1 hB
   obtain ⟨x0, x1, x2, g0, g1, g2⟩ := id hx1
   dsimp only at x0 x1 x2
   have e1 := EW.out
   go_wp2_with fail
   go_quiet (fail)
   go_wp2
   go_ret
   exact ⟨rfl, below_drewN hb2 _⟩
  ·
   have d1 : decide (t < 0) = false := decide_eq_false (by omega)
   have d2 : decide (now < t) = false := decide_eq_false (by omega)
   have d3 : decide (t ≤ now - 100) = true := decide_eq_true (by omega)
   go_enter Tryz.func14, Tryz.ntmps14
   go_wp2_with fail
   refine (his _ hb0).mono ?_
   rintro e w1 ⟨rfl, hb1⟩
   have hb2 := Below.chain hb0 hb1
   have hx1 := hB.later hb1
   have hm1 := (HM.out _ hb2).c0
   clear hw0 hb0 hb1 hB
   obtain ⟨x0, x1, x2, g0, g1, g2⟩ := id hx1
   dsimp only at x0 x1 x2
   have e1 := EW.out
   go_wp2_with fail
   go_quiet (fail)
   go_wp2
   go_ret
   exact ⟨rfl, below_drewN hb2 _⟩
set_option maxHeartbeats 4000000 in
theorem add_151n (hb : Nat) (now : Int) (ao : Option Addr) (n cap : Nat) (rs : List Rec) (q : Value) (t : Int) (xo : Bool) (xn : Int) (S : Nat → Bool) (w : World) (h : Hm w hb now ao n cap rs)
  (his : ∀ W, Below w.heap.size w W → Calls Tryz.prog 37 #[q] W fun e w' => e = .returned (.bool true) ∧ Below W.heap.size W w') (hsame : ∀ j, j < n → ∀ W, Below w.heap.size w W → Calls Tryz.prog 45 #[(rs.getD j r0).2.1, q] W fun e w' => e = .returned (.bool (S j)) ∧ Below W.heap.size W w') (ht : 0 ≤ t ∧ t ≤ now ∧ now - 100 < t) (hF : Fst S n none) (hlv : 16 ≤ lvN now rs n) :
  Calls Tryz.prog 14 #[.pointer (some ⟨hb, 0, none⟩), q, sv (t, xo, xn)] w fun e w' => e = .returned (.int .i64 151) ∧ Below w.heap.size w w' := by
 have hb0 := bal (Below.refl _ w) (.cells #[.int .i64 t, .bool xo, .int .i64 xn] 35)
 have hB := BoxS.new w (t, xo, xn)
 have HM : Hid (∀ W, Below w.heap.size w W → Hm W hb now ao n cap rs) := fun W hW => h.later hW
 have hnow := h.now_
 have hn6 := h.n_
 have EW : Hid (wrap64 (now - 100) = now - 100) := by show _ = _; unfold wrap64; omega
 have hw0 := (HM.out _ hb0).c0
 have hfi := fun W (hW : Below w.heap.size w W) => find_any hb now ao n cap rs q S W (HM.out W hW) (fun j hj W2 hW2 => hsame j hj W2 (Below.chain hW hW2))
 have hli := fun W (hW : Below w.heap.size w W) => live_any hb now ao n cap rs W (HM.out W hW)
 have hle := lvN_le now rs n
 clear h
 have d1 : decide (t < 0) = false := decide_eq_false (by omega)
 have d2 : decide (now < t) = false := decide_eq_false (by omega)
 have d3 : decide (t ≤ now - 100) = false := decide_eq_false (by omega)
 go_enter Tryz.func14, Tryz.ntmps14
 go_wp2_with fail
 refine (his _ hb0).mono ?_
 rintro e w1 ⟨rfl, hb1⟩
 have hb2 := Below.chain hb0 hb1
 have hx1 := hB.later hb1
 have hm1 := (HM.out _ hb2).c0
 clear hw0 hb0 hb1 hB
 obtain ⟨x0, x1, x2, g0, g1, g2⟩ := id hx1
 dsimp only at x0 x1 x2
 have e1 := EW.out
 go_wp2_with fail
 go_quiet (fail)
 generalize hwq : w1.drewN _ = wa
 have hba : Below w.heap.size w wa := by rw [← hwq]; exact below_drewN hb2 _
 have hxa : BoxS wa w.heap.size (t, xo, xn) := by rw [← hwq]; exact hx1.later (below_drewN (Below.refl _ _) _)
 clear hwq hx1 hm1 x0 x1 x2 g0 g1 g2 hb2 d1 d2 d3 e1
 go_wp2_with fail
 refine (hfi _ hba).mono ?_
 rintro e w2 ⟨o2, rfl, hF2, hb2⟩
 obtain rfl := hF2.unique hF
 clear hF2
 have hbb := Below.chain hba hb2
 have hxb : BoxS w2 w.heap.size (t, xo, xn) := hxa.later hb2
 obtain ⟨u, hu⟩ : ∃ u, lvN now rs n = u := ⟨_, rfl⟩
 rw [hu] at hlv hli hle
 have dl : decide ((16 : Int) ≤ (u : Int)) = true := decide_eq_true (by omega)
 dsimp only [ptO]
 go_wp2_with fail
 go_quiet (fail)
 generalize hwq : w2.drewN _ = w9
 have hbc : Below w.heap.size w w9 := by rw [← hwq]; exact below_drewN hbb _
 clear hwq
 go_wp2_with fail
 refine (hli _ hbc).mono ?_
 rintro e w3 ⟨rfl, hb3⟩
 have hbd := Below.chain hbc hb3
 go_wp2
 go_ret
 exact ⟨rfl, hbd⟩
set_option maxHeartbeats 4000000 in
theorem add_151s (j : Nat) (hb : Nat) (now : Int) (ao : Option Addr) (n cap : Nat) (rs : List Rec) (q : Value) (t : Int) (xo : Bool) (xn : Int) (S : Nat → Bool) (w : World) (h : Hm w hb now ao n cap rs)
  (his : ∀ W, Below w.heap.size w W → Calls Tryz.prog 37 #[q] W fun e w' => e = .returned (.bool true) ∧ Below W.heap.size W w') (hsame : ∀ j, j < n → ∀ W, Below w.heap.size w W → Calls Tryz.prog 45 #[(rs.getD j r0).2.1, q] W fun e w' => e = .returned (.bool (S j)) ∧ Below W.heap.size W w') (ht : 0 ≤ t ∧ t ≤ now ∧ now - 100 < t) (hF : Fst S n (some j)) (hno : (lst (rs.getD j r0).2.2.2.2.2).1 ≤ now - 100) (hlv : 16 ≤ lvN now rs n) :
  Calls Tryz.prog 14 #[.pointer (some ⟨hb, 0, none⟩), q, sv (t, xo, xn)] w fun e w' => e = .returned (.int .i64 151) ∧ Below w.heap.size w w' := by
 have hb0 := bal (Below.refl _ w) (.cells #[.int .i64 t, .bool xo, .int .i64 xn] 35)
 have hB := BoxS.new w (t, xo, xn)
 have HM : Hid (∀ W, Below w.heap.size w W → Hm W hb now ao n cap rs) := fun W hW => h.later hW
 have hnow := h.now_
 have hn6 := h.n_
 have EW : Hid (wrap64 (now - 100) = now - 100) := by show _ = _; unfold wrap64; omega
 have hw0 := (HM.out _ hb0).c0
 have hfi := fun W (hW : Below w.heap.size w W) => find_any hb now ao n cap rs q S W (HM.out W hW) (fun j hj W2 hW2 => hsame j hj W2 (Below.chain hW hW2))
 have hj := hF.1
 have hrl : rs.length = n := h.p.1
 have hth := fun W (hW : Below w.heap.size w W) => (have hm := HM.out W hW; have hr := hm.r _ (getD_memR (by omega : j < rs.length)); there_any hb _ now _ _ _ _ _ W hm.c0 (by omega) hr.s hr.m hr.n)
 have hla := fun W (hW : Below w.heap.size w W) => (have hm := HM.out W hW; have hr := hm.r _ (getD_memR (by omega : j < rs.length)); last_any _ _ _ _ _ _ W hr.s hr.m hr.n)
 have hli := fun W (hW : Below w.heap.size w W) => live_any hb now ao n cap rs W (HM.out W hW)
 have hle := lvN_le now rs n
 clear h
 have d1 : decide (t < 0) = false := decide_eq_false (by omega)
 have d2 : decide (now < t) = false := decide_eq_false (by omega)
 have d3 : decide (t ≤ now - 100) = false := decide_eq_false (by omega)
 go_enter Tryz.func14, Tryz.ntmps14
 go_wp2_with fail
 refine (his _ hb0).mono ?_
 rintro e w1 ⟨rfl, hb1⟩
 have hb2 := Below.chain hb0 hb1
 have hx1 := hB.later hb1
 have hm1 := (HM.out _ hb2).c0
 clear hw0 hb0 hb1 hB
 obtain ⟨x0, x1, x2, g0, g1, g2⟩ := id hx1
 dsimp only at x0 x1 x2
 have e1 := EW.out
 go_wp2_with fail
 go_quiet (fail)
 generalize hwq : w1.drewN _ = wa
 have hba : Below w.heap.size w wa := by rw [← hwq]; exact below_drewN hb2 _
 have hxa : BoxS wa w.heap.size (t, xo, xn) := by rw [← hwq]; exact hx1.later (below_drewN (Below.refl _ _) _)
 clear hwq hx1 hm1 x0 x1 x2 g0 g1 g2 hb2 d1 d2 d3 e1
 go_wp2_with fail
 refine (hfi _ hba).mono ?_
 rintro e w2 ⟨o2, rfl, hF2, hb2⟩
 obtain rfl := hF2.unique hF
 clear hF2
 have hbb := Below.chain hba hb2
 have hxb : BoxS w2 w.heap.size (t, xo, xn) := hxa.later hb2
 obtain ⟨u, hu⟩ : ∃ u, lvN now rs n = u := ⟨_, rfl⟩
 rw [hu] at hlv hli hle
 have dl : decide ((16 : Int) ≤ (u : Int)) = true := decide_eq_true (by omega)
 dsimp only [ptO]
 generalize (lst (rs.getD j r0).2.2.2.2.2).1 = L at *
 generalize (rs.getD j r0).1 = P at *
 have dt : decide (now - 100 < L) = false := decide_eq_false (by omega)
 rw [dt] at hth
 go_wp2_with fail
 refine (hth _ hbb).mono ?_
 rintro e w3 ⟨rfl, hb3⟩
 have hbc := Below.chain hbb hb3
 have hxc : BoxS w3 w.heap.size (t, xo, xn) := hxb.later hb3
 go_wp2_with fail
 go_quiet (fail)
 generalize hwq : w3.drewN _ = w9
 have hbd : Below w.heap.size w w9 := by rw [← hwq]; exact below_drewN hbc _
 clear hwq
 go_wp2_with fail
 refine (hli _ hbd).mono ?_
 rintro e w4 ⟨rfl, hb4⟩
 have hbe := Below.chain hbd hb4
 go_wp2
 go_ret
 exact ⟨rfl, hbe⟩
set_option maxHeartbeats 4000000 in
theorem add_150 (j : Nat) (hb : Nat) (now : Int) (ao : Option Addr) (n cap : Nat) (rs : List Rec) (q : Value) (t : Int) (xo : Bool) (xn : Int) (S : Nat → Bool) (w : World) (h : Hm w hb now ao n cap rs)
  (his : ∀ W, Below w.heap.size w W → Calls Tryz.prog 37 #[q] W fun e w' => e = .returned (.bool true) ∧ Below W.heap.size W w') (hsame : ∀ j, j < n → ∀ W, Below w.heap.size w W → Calls Tryz.prog 45 #[(rs.getD j r0).2.1, q] W fun e w' => e = .returned (.bool (S j)) ∧ Below W.heap.size W w') (ht : 0 ≤ t ∧ t ≤ now ∧ now - 100 < t) (hF : Fst S n (some j)) (hno : now - 100 < (lst (rs.getD j r0).2.2.2.2.2).1) (hlv : t ≤ (lst (rs.getD j r0).2.2.2.2.2).1) :
  Calls Tryz.prog 14 #[.pointer (some ⟨hb, 0, none⟩), q, sv (t, xo, xn)] w fun e w' => e = .returned (.int .i64 150) ∧ Below w.heap.size w w' := by
 have hb0 := bal (Below.refl _ w) (.cells #[.int .i64 t, .bool xo, .int .i64 xn] 35)
 have hB := BoxS.new w (t, xo, xn)
 have HM : Hid (∀ W, Below w.heap.size w W → Hm W hb now ao n cap rs) := fun W hW => h.later hW
 have hnow := h.now_
 have hn6 := h.n_
 have EW : Hid (wrap64 (now - 100) = now - 100) := by show _ = _; unfold wrap64; omega
 have hw0 := (HM.out _ hb0).c0
 have hfi := fun W (hW : Below w.heap.size w W) => find_any hb now ao n cap rs q S W (HM.out W hW) (fun j hj W2 hW2 => hsame j hj W2 (Below.chain hW hW2))
 have hj := hF.1
 have hrl : rs.length = n := h.p.1
 have hth := fun W (hW : Below w.heap.size w W) => (have hm := HM.out W hW; have hr := hm.r _ (getD_memR (by omega : j < rs.length)); there_any hb _ now _ _ _ _ _ W hm.c0 (by omega) hr.s hr.m hr.n)
 have hla := fun W (hW : Below w.heap.size w W) => (have hm := HM.out W hW; have hr := hm.r _ (getD_memR (by omega : j < rs.length)); last_any _ _ _ _ _ _ W hr.s hr.m hr.n)
 clear h
 have d1 : decide (t < 0) = false := decide_eq_false (by omega)
 have d2 : decide (now < t) = false := decide_eq_false (by omega)
 have d3 : decide (t ≤ now - 100) = false := decide_eq_false (by omega)
 go_enter Tryz.func14, Tryz.ntmps14
 go_wp2_with fail
 refine (his _ hb0).mono ?_
 rintro e w1 ⟨rfl, hb1⟩
 have hb2 := Below.chain hb0 hb1
 have hx1 := hB.later hb1
 have hm1 := (HM.out _ hb2).c0
 clear hw0 hb0 hb1 hB
 obtain ⟨x0, x1, x2, g0, g1, g2⟩ := id hx1
 dsimp only at x0 x1 x2
 have e1 := EW.out
 go_wp2_with fail
 go_quiet (fail)
 generalize hwq : w1.drewN _ = wa
 have hba : Below w.heap.size w wa := by rw [← hwq]; exact below_drewN hb2 _
 have hxa : BoxS wa w.heap.size (t, xo, xn) := by rw [← hwq]; exact hx1.later (below_drewN (Below.refl _ _) _)
 clear hwq hx1 hm1 x0 x1 x2 g0 g1 g2 hb2 d1 d2 d3 e1
 go_wp2_with fail
 refine (hfi _ hba).mono ?_
 rintro e w2 ⟨o2, rfl, hF2, hb2⟩
 obtain rfl := hF2.unique hF
 clear hF2
 have hbb := Below.chain hba hb2
 have hxb : BoxS w2 w.heap.size (t, xo, xn) := hxa.later hb2
 dsimp only [ptO]
 generalize (lst (rs.getD j r0).2.2.2.2.2).1 = L at *
 generalize (rs.getD j r0).1 = P at *
 have dt : decide (now - 100 < L) = true := decide_eq_true (by omega)
 have dq : decide (t ≤ L) = true := decide_eq_true (by omega)
 rw [dt] at hth
 go_wp2_with fail
 refine (hth _ hbb).mono ?_
 rintro e w3 ⟨rfl, hb3⟩
 have hbc := Below.chain hbb hb3
 have hxc : BoxS w3 w.heap.size (t, xo, xn) := hxb.later hb3
 go_wp2_with fail
 have qz : w3.drew.cell? ⟨w.heap.size, 0, none⟩ = some (Value.int .i64 t) := (hxc.later (Below.refl _ _).drew).c0
 have hb3d : Below w.heap.size w w3.drew := hbc.drew
 have hS0 : (fun W : World => W.cell? ⟨w.heap.size, 0, none⟩ = some (Value.int .i64 t)) _ := qz
 refine wp_region_noPanic ?_
 refine wp_region_held_drew (S := fun W : World => W.cell? ⟨w.heap.size, 0, none⟩ = some (Value.int .i64 t)) (by kernel_rfl) hS0 (fun _ => ?_)
 refine take_at 0 (some 45) (.bool true) rfl rfl (by kernel_rfl) (by kernel_rfl) (by kernel_rfl) (fun _ _ _ h => h) (by rfl) (fun W hSw => by have q0 : W.cell? ⟨w.heap.size, 0, none⟩ = some (Value.int .i64 t) := hSw; go_simp) hS0 ?_
 simp only [Act.put, List.setIfInBounds_toArray, List.set_cons_zero, List.set_cons_succ]
 refine take_at 1 (some 46) (.bool true) rfl rfl (by kernel_rfl) (by kernel_rfl) (by kernel_rfl) (fun _ _ _ h => h) (by rfl) (fun W hSw => by have q0 : W.cell? ⟨w.heap.size, 0, none⟩ = some (Value.int .i64 t) := hSw; go_simp) hS0 ?_
 simp only [Act.put, List.setIfInBounds_toArray, List.set_cons_zero, List.set_cons_succ]
 refine take_at 2 (some 47) (.pointer (some ⟨P, 0, none⟩)) rfl rfl (by kernel_rfl) (by kernel_rfl) (by kernel_rfl) (fun _ _ _ h => h) (by rfl) (fun W hSw => by have q0 : W.cell? ⟨w.heap.size, 0, none⟩ = some (Value.int .i64 t) := hSw; go_simp) hS0 ?_
 simp only [Act.put, List.setIfInBounds_toArray, List.set_cons_zero, List.set_cons_succ]
 refine take_at 4 (some 49) (.pointer (some ⟨w.heap.size, 0, none⟩)) rfl rfl (by kernel_rfl) (by kernel_rfl) (by kernel_rfl) (fun _ _ _ h => h) (by rfl) (fun W hSw => by have q0 : W.cell? ⟨w.heap.size, 0, none⟩ = some (Value.int .i64 t) := hSw; go_simp) hS0 ?_
 simp only [Act.put, List.setIfInBounds_toArray, List.set_cons_zero, List.set_cons_succ]
 refine take_at 5 (some 50) (.int .i64 t) rfl rfl (by kernel_rfl) (by kernel_rfl) (by kernel_rfl) (fun _ _ _ h => h) (by rfl) (fun W hSw => by have q0 : W.cell? ⟨w.heap.size, 0, none⟩ = some (Value.int .i64 t) := hSw; go_simp) hS0 ?_
 simp only [Act.put, List.setIfInBounds_toArray, List.set_cons_zero, List.set_cons_succ]
 refine wpAnyH_ready (rs := [3]) (by kernel_rfl) (by simp) ?_
 refine AllReadyH.cons rfl (fun K hK => ?_) AllReadyH.nil
 go_simp
 refine (hla _ hb3d).mono ?_
 rintro e w4 ⟨rfl, hb4⟩
 have qz1 := (hb4.cell (World.block_lt_of_cell? _ _ qz)).trans qz
 have hS1 := (qz1 : (fun W : World => W.cell? ⟨w.heap.size, 0, none⟩ = some (Value.int .i64 t)) w4)
 refine hK.out _ _ hS1 (fun _ => ?_)
 clear hK K
 refine take_at 6 (some 51) (.bool true) rfl rfl (by kernel_rfl) (by kernel_rfl) (by kernel_rfl) (fun _ _ _ h => h) (by rfl) (fun W hSw => by go_simp) hS1 ?_
 simp only [Act.put, List.setIfInBounds_toArray, List.set_cons_zero, List.set_cons_succ]
 refine take_at 7 (some 52) (.bool true) rfl rfl (by kernel_rfl) (by kernel_rfl) (by kernel_rfl) (fun _ _ _ h => h) (by rfl) (fun W hSw => by have q0 : W.cell? ⟨w.heap.size, 0, none⟩ = some (Value.int .i64 t) := hSw; go_simp) hS1 ?_
 simp only [Act.put, List.setIfInBounds_toArray, List.set_cons_zero, List.set_cons_succ]
 refine wpAnyH_done (by kernel_rfl) ?_ _
 refine NoPanic.normal ?_
 have hbe := Below.chain hb3d hb4
 go_wp2
 go_ret
 exact ⟨rfl, hbe⟩
end Go.Proofs.YtjgckfcocmhnhaaGreatDoor.Hy
namespace Go.Proofs.YtjgckfcocmhnhaaGreatDoor.Hy
open Go.RowKit
/-- What kind of memory lies there. -/
def Ty (w : World) (b : Nat) (e : TypeId) : Prop := ∃ cur fr, w.heap[b]? = some (.cells cur e fr)
theorem Ty.lt {w : World} {b : Nat} {e : TypeId} (h : Ty w b e) : b < w.heap.size := by
 obtain ⟨c, f, h⟩ := h
 rcases Nat.lt_or_ge b w.heap.size with hlt | hge
 ·
  exact hlt
 ·
  rw [Array.getElem?_eq_none hge] at h; cases h
theorem Ty.kept {w w' : World} {b : Nat} {e : TypeId} (h : Ty w b e) {row : Option Nat} (hg : w.grownBy w' row) (hne : some b ≠ row) : Ty w' b e := by
 have hlt := h.lt
 obtain ⟨c, f, h⟩ := h
 exact ⟨c, f, (hg.block b hlt hne).trans h⟩
theorem Ty.later {w w' : World} {b : Nat} {e : TypeId} (h : Ty w b e) (hb : Below w.heap.size w w') : Ty w' b e := h.kept (grown_below hb none) (by simp)
theorem Ty.set {w : World} {b : Nat} {e : TypeId} (h : Ty w b e) (o : Nat) (v : Value) : Ty (w.setCell ⟨b, o, none⟩ v) b e := by
 obtain ⟨c, f, h⟩ := h
 obtain ⟨hlt, hk⟩ := Array.getElem?_eq_some_iff.1 h
 refine ⟨c.setIfInBounds o v, f, ?_⟩
 show (w.heap.modify b _)[b]? = _
 rw [Array.getElem?_eq_getElem (by rw [Array.size_modify]; exact hlt), Array.getElem_modify_self, hk]
 rfl
theorem Ty.ne {w : World} {a b : Nat} {e e' : TypeId} (h : Ty w a e) (h' : Ty w b e') (hne : e ≠ e') : a ≠ b := by
 rintro rfl
 obtain ⟨c, f, h⟩ := h
 obtain ⟨c', f', h'⟩ := h'
 rw [h] at h'
 injection h' with h'
 injection h' with _ h' _
 exact hne h'
theorem Ty.new (w : World) (cs : Array Value) (e : TypeId) : Ty (w.alloc (.cells cs e)) w.heap.size e := ⟨cs, _, heap_alloc_new w _⟩
theorem row_ty {w : World} {base : Nat} {e : TypeId} {size : Nat} {v : Value} {n : Nat} {xs : List Value} (h : w.ownsRow base e size v n xs) {g : Nat} (hg : v.ownBlock = some g) : Ty w g e := by
 rcases h.2 with ⟨rfl, _⟩ | ⟨g', cap, cur, rfl, _, hgb, _⟩
 ·
  simp [Value.ownBlock] at hg
 ·
  obtain rfl : g' = g := by simpa [Value.ownBlock] using hg
  exact ⟨cur, _, hgb⟩
theorem row_kept {w w' : World} {base : Nat} {e : TypeId} {size : Nat} {v : Value} {n : Nat} {xs : List Value} (h : w.ownsRow base e size v n xs) {row : Option Nat} (hg : w.grownBy w' row) (hne : ∀ g, v.ownBlock = some g → some g ≠ row) : w'.ownsRow base e size v n xs := by
 refine World.ownsRow.kept h hg ?_
 cases hv : v.ownBlock with
 | none => exact Or.inl rfl
 | some k => exact Or.inr (fun e => hne k hv e)
/-- A row's block is not one of another kind. -/
theorem row_ne {w : World} {base : Nat} {e e' : TypeId} {size : Nat} {v : Value} {n : Nat} {xs : List Value} (h : w.ownsRow base e size v n xs) {b : Nat} (ht : Ty w b e') (hne : e ≠ e') : ∀ g, v.ownBlock = some g → some g ≠ some b := by
 intro g hg e1
 injection e1 with e1
 exact (row_ty h hg).ne ht hne e1
/-- A series' row of samples. -/
abbrev sl (r : Rec) : Value := .slice r.2.2.1 r.2.2.2.1 r.2.2.2.2.1
/-- A series that may be written. -/
structure Rw (w : World) (base : Nat) (r : Rec) : Prop where
 m : Rm w r
 o : Own w base (sl r) r.2.2.2.2.2
 f : w.frozen? ⟨r.1, 1, none⟩ = false
 t : Ty w r.1 94
theorem Ms.of_own {w : World} {base : Nat} {ao : Option Addr} {n cap : Nat} {l : List Smp} (h : Own w base (.slice ao n cap) l) : Ms w ao n l := by
 obtain ⟨a, c, e, hs⟩ := h.slice
 injection e with e1 e2 e3
 subst e1 e2 e3
 exact hs
theorem Rw.kept {w w' : World} {base : Nat} {r : Rec} (h : Rw w base r) {row : Option Nat} (hg : w.grownBy w' row) (h1 : some r.1 ≠ row) (h2 : ∀ g, (sl r).ownBlock = some g → some g ≠ row) : Rw w' base r :=
 have ho := row_kept h.o hg h2
 ⟨⟨h.m.s.kept hg h1, Ms.of_own ho, h.m.n⟩, ho, grown_frozen hg h.t.lt h.f h1, h.t.kept hg h1⟩
theorem Rw.later {w w' : World} {base : Nat} {r : Rec} (h : Rw w base r) (hb : Below w.heap.size w w') : Rw w' base r := h.kept (grown_below hb none) (by simp) (fun _ _ => by simp)
/-- Two of them lie apart. -/
def Ap (a b : Rec) : Prop := a.1 ≠ b.1 ∧ ∀ g, (sl a).ownBlock = some g → (sl b).ownBlock ≠ some g
theorem Ap.symm {a b : Rec} (h : Ap a b) : Ap b a := ⟨fun e => h.1 e.symm, fun g h1 h2 => h.2 g h2 h1⟩
/-- A history that may be written. -/
structure Hx (w : World) (hb : Nat) (now : Int) (base : Nat) (ao : Option Addr) (n cap : Nat) (rs : List Rec) : Prop where
 c0 : w.cell? ⟨hb, 0, none⟩ = some (.int .i64 now)
 c1 : w.cell? ⟨hb, 1, none⟩ = some (.slice ao n cap)
 f0 : w.frozen? ⟨hb, 0, none⟩ = false
 f1 : w.frozen? ⟨hb, 1, none⟩ = false
 t : Ty w hb 30
 p : OwnP w base (.slice ao n cap) rs
 r : ∀ r ∈ rs, Rw w base r
 a : rs.Pairwise Ap
 now_ : 0 ≤ now ∧ now ≤ 1000000
 n_ : n ≤ 1000000
theorem Hx.hm {w : World} {hb : Nat} {now : Int} {base : Nat} {ao : Option Addr} {n cap : Nat} {rs : List Rec} (h : Hx w hb now base ao n cap rs) : Hm w hb now ao n cap rs := by
 obtain ⟨a, c, e, hs⟩ := h.p.slice
 injection e with e1 e2 e3
 subst e1 e2 e3
 exact ⟨h.c0, h.c1, hs, fun r hr => (h.r r hr).m, h.now_, h.n_⟩
/-- The blocks that are the history's. -/
def Ft (hb : Nat) (v : Value) (rs : List Rec) (k : Nat) : Prop := k = hb ∨ v.ownBlock = some k ∨ ∃ r ∈ rs, k = r.1 ∨ (sl r).ownBlock = some k
theorem Hx.kept {w w' : World} {hb : Nat} {now : Int} {base : Nat} {ao : Option Addr} {n cap : Nat} {rs : List Rec} (h : Hx w hb now base ao n cap rs) {row : Option Nat} (hg : w.grownBy w' row) (hne : ∀ k, Ft hb (.slice ao n cap) rs k → some k ≠ row) : Hx w' hb now base ao n cap rs :=
 have h0 := hne hb (Or.inl rfl)
 ⟨grown_cell hg h.c0 h0, grown_cell hg h.c1 h0, grown_frozen hg h.t.lt h.f0 h0, grown_frozen hg h.t.lt h.f1 h0, h.t.kept hg h0, row_kept h.p hg (fun g e => hne g (Or.inr (Or.inl e))),
  fun r hr => (h.r r hr).kept hg (hne _ (Or.inr (Or.inr ⟨r, hr, Or.inl rfl⟩))) (fun g e => hne g (Or.inr (Or.inr ⟨r, hr, Or.inr e⟩))), h.a, h.now_, h.n_⟩
theorem Hx.later {w w' : World} {hb : Nat} {now : Int} {base : Nat} {ao : Option Addr} {n cap : Nat} {rs : List Rec} (h : Hx w hb now base ao n cap rs) (hw : Below w.heap.size w w') : Hx w' hb now base ao n cap rs := h.kept (grown_below hw none) (fun _ _ => by simp)
/-- All but these blocks are as they were. -/
structure Gf (w w' : World) (F : Nat → Prop) : Prop where
 os : w'.os = w.os
 tape : w'.tape = w.tape
 output : w'.output = w.output
 size : w.heap.size ≤ w'.heap.size
 block : ∀ k, k < w.heap.size → ¬ F k → w'.heap[k]? = w.heap[k]?
theorem Gf.of {w w' : World} {F : Nat → Prop} {row : Option Nat} (h : w.grownBy w' row) (hr : ∀ k, row = some k → k < w.heap.size → F k) : Gf w w' F := ⟨h.os, h.tape, h.output, h.size, fun k hk hf => h.block k hk (fun e => hf (hr k e.symm hk))⟩
theorem Gf.trans {a b c : World} {F : Nat → Prop} (h : Gf a b F) (h' : Gf b c F) : Gf a c F := ⟨h'.os.trans h.os, h'.tape.trans h.tape, h'.output.trans h.output, Nat.le_trans h.size h'.size, fun k hk hf => (h'.block k (Nat.lt_of_lt_of_le hk h.size) hf).trans (h.block k hk hf)⟩
theorem Gf.step {a b c : World} {F : Nat → Prop} (h : Gf a b F) {row : Option Nat} (h' : b.grownBy c row) (hr : ∀ k, row = some k → k < a.heap.size → F k) : Gf a c F := ⟨h'.os.trans h.os, h'.tape.trans h.tape, h'.output.trans h.output, Nat.le_trans h.size h'.size, fun k hk hf => (h'.block k (Nat.lt_of_lt_of_le hk h.size) (fun e => hf (hr k e.symm hk))).trans (h.block k hk hf)⟩
theorem Gf.below {a b : World} {F : Nat → Prop} (h : Below a.heap.size a b) : Gf a b F := Gf.of (grown_below h none) (by simp)
/-- What the clock says. -/
def onw (now n : Int) : Int := max now (min n 1000000)
set_option maxHeartbeats 1000000 in
theorem advance_any (hb : Nat) (now : Int) (base : Nat) (ao : Option Addr) (n cap : Nat) (rs : List Rec) (m : Int) (w : World) (h : Hx w hb now base ao n cap rs) :
  Calls Tryz.prog 12 #[.pointer (some ⟨hb, 0, none⟩), .int .i64 m] w fun e w' => e = .returned (.tuple #[]) ∧ Hx w' hb (onw now m) base ao n cap rs ∧ w.grownBy w' (some hb) := by
 have h0 := h.c0
 have f0 := h.f0
 have hno := h.now_
 have hrg : 0 ≤ onw now m ∧ onw now m ≤ 1000000 := by unfold onw; omega
 have H2 : Hx (w.setCell ⟨hb, 0, none⟩ (.int .i64 (onw now m))) hb (onw now m) base ao n cap rs := by
  have hg := grown_set w hb 0 (.int .i64 (onw now m))
  exact ⟨set_same h0, (set_ne (by omega)).trans h.c1, by simpa using h.f0, by simpa using h.f1, h.t.set _ _, row_kept h.p hg (row_ne h.p h.t (by decide)),
   fun r hr => (h.r r hr).kept hg (fun e => (h.r r hr).t.ne h.t (by decide) (by injection e)) (row_ne (h.r r hr).o h.t (by decide)), h.a, hrg, h.n_⟩
 have hg := grown_set w hb 0 (.int .i64 (onw now m))
 have HO : Hid (onw now m = max now (min m 1000000)) := rfl
 unfold onw at H2 hg
 clear h
 go_enter Tryz.func12, Tryz.ntmps12
 go_wp2
 go_end0
 exact ⟨rfl, by rw [HO.out]; exact H2, hg⟩
end Go.Proofs.YtjgckfcocmhnhaaGreatDoor.Hy
namespace Go.Proofs.YtjgckfcocmhnhaaGreatDoor.Hy
open Go.RowKit
theorem map_pt_set {rs : List Rec} {j : Nat} {x : Rec} (hj : j < rs.length) (h : x.1 = (rs.getD j r0).1) : (rs.set j x).map pt = rs.map pt := by
 apply List.ext_getElem
 ·
  simp
 ·
  intro i h1 h2
  rw [List.getElem_map, List.getElem_map, List.getElem_set]
  split
  ·
   rename_i e
   subst e
   unfold pt
   rw [h, List.getD_eq_getElem?_getD, List.getElem?_eq_getElem hj]
   rfl
  ·
   rfl
theorem Own.block {w : World} {base : Nat} {v : Value} {l : List Smp} (h : Own w base v l) {g : Nat} (hg : v.ownBlock = some g) : g < w.heap.size := (row_ty h hg).lt
theorem Hx.snoc {w w8 : World} {hb : Nat} {now : Int} {base : Nat} {ao : Option Addr} {n cap : Nat} {rs : List Rec} (h : Hx w hb now base ao n cap rs) {j : Nat} (hj : j < rs.length) {p : Nat} {lv : Value} {ar : Option Addr} {m c : Nat} {l : List Smp} (hr : rs.getD j r0 = (p, lv, ar, m, c, l)) (hm : m + 1 ≤ 1000000) {s : Smp} {g c' : Nat}
  (ho8 : w8.ownsRow base 35 3 (.slice (some ⟨g, 0, none⟩) (m + 1) c') (m + 1) (cellsS l ++ cellsS [s])) (hg8 : w.grownBy w8 (Value.slice ar m c).ownBlock) (hl8 : (Value.slice ar m c).ownBlock = some g ∨ g = w.heap.size) :
  Hx (w8.setCell ⟨p, 1, none⟩ (.slice (some ⟨g, 0, none⟩) (m + 1) c')) hb now base ao n cap (rs.set j (p, lv, some ⟨g, 0, none⟩, m + 1, c', l ++ [s])) := by
 have hrj : rs[j] = (p, lv, ar, m, c, l) := by rw [← hr, List.getD_eq_getElem?_getD, List.getElem?_eq_getElem hj]; rfl
 have hw := h.r _ (List.getElem_mem hj)
 rw [hrj] at hw
 have hln : l.length = m := hw.m.m.1
 have hO8 : Own w8 base (.slice (some ⟨g, 0, none⟩) (m + 1) c') (l ++ [s]) := Own.snoc (by rw [hln]; exact ho8)
 have hpt : Ty w p 94 := hw.t
 have h2 := grown_set w8 p 1 (.slice (some ⟨g, 0, none⟩) (m + 1) c')
 have row1 : ∀ {b : Nat} {e : TypeId}, Ty w b e → (35 : TypeId) ≠ e → some b ≠ (Value.slice ar m c).ownBlock := fun {b e} ht hne e1 => (row_ne hw.o ht hne) b e1.symm rfl
 have hpt8 : Ty w8 p 94 := hpt.kept hg8 (row1 hpt (by decide))
 have hbt8 : Ty w8 hb 30 := h.t.kept hg8 (row1 h.t (by decide))
 have hbp : some hb ≠ some p := fun e => hbt8.ne hpt8 (by decide) (by injection e)
 have hP8 : OwnP w8 base (.slice ao n cap) rs := row_kept h.p hg8 (fun k hk e1 => (row_ty h.p hk).ne (row_ty hw.o e1.symm) (by decide) rfl)
 have hP9 : OwnP (w8.setCell ⟨p, 1, none⟩ (.slice (some ⟨g, 0, none⟩) (m + 1) c')) base (.slice ao n cap) rs := row_kept hP8 h2 (row_ne hP8 hpt8 (by decide))
 have hO9 : Own (w8.setCell ⟨p, 1, none⟩ (.slice (some ⟨g, 0, none⟩) (m + 1) c')) base (.slice (some ⟨g, 0, none⟩) (m + 1) c') (l ++ [s]) := row_kept hO8 h2 (row_ne hO8 hpt8 (by decide))
 have hc1 := hg8.cell hw.m.s.c1 (row1 hpt (by decide))
 have hc0 := hg8.cell hw.m.s.c0 (row1 hpt (by decide))
 have hf8 := grown_frozen hg8 hpt.lt hw.f (row1 hpt (by decide))
 have hnew : Rw (w8.setCell ⟨p, 1, none⟩ (.slice (some ⟨g, 0, none⟩) (m + 1) c')) base (p, lv, some ⟨g, 0, none⟩, m + 1, c', l ++ [s]) :=
  ⟨⟨⟨(set_ne (by omega)).trans hc0, set_same hc1⟩, Ms.of_own hO9, by show 0 < m + 1; omega, hm⟩, hO9, by simpa using hf8, hpt8.set _ _⟩
 have hap := List.pairwise_iff_getElem.1 h.a
 have hapj : ∀ i (hi : i < rs.length), i ≠ j → Ap (p, lv, ar, m, c, l) rs[i] := fun i hi hne => by
  rw [← hrj]
  rcases Nat.lt_or_gt_of_ne hne with e | e
  ·
   exact (hap i j hi hj e).symm
  ·
   exact hap j i hj hi e
 have hapn : ∀ i (hi : i < rs.length), i ≠ j → Ap (p, lv, some ⟨g, 0, none⟩, m + 1, c', l ++ [s]) rs[i] := fun i hi hne => by
  have h1 := hapj i hi hne
  refine ⟨h1.1, fun k hk e => ?_⟩
  have hkg : g = k := by simpa [Value.ownBlock] using hk
  subst hkg
  rcases hl8 with e8 | e8
  ·
   exact h1.2 g e8 e
  ·
   have := (h.r _ (List.getElem_mem hi)).o.block e
   omega
 refine ⟨(set_other (fun e => hbp (by injection e with e; rw [e]))).trans (hg8.cell h.c0 (row1 h.t (by decide))), (set_other (fun e => hbp (by injection e with e; rw [e]))).trans (hg8.cell h.c1 (row1 h.t (by decide))), by simpa using grown_frozen hg8 h.t.lt h.f0 (row1 h.t (by decide)), by simpa using grown_frozen hg8 h.t.lt h.f1 (row1 h.t (by decide)), hbt8.kept h2 hbp, ?_, ?_, ?_, h.now_, h.n_⟩
 ·
  unfold OwnP
  rw [map_pt_set hj (by rw [hr]), List.length_set]
  exact hP9
 ·
  intro r2 hr2
  obtain ⟨i, hi, rfl⟩ := List.mem_iff_getElem.1 hr2
  rw [List.length_set] at hi
  rw [List.getElem_set]
  by_cases e : j = i
  ·
   rw [if_pos e]; exact hnew
  ·
   rw [if_neg e]
   have hA := hapj i hi (fun x => e x.symm)
   have hri := h.r _ (List.getElem_mem hi)
   have h8 : Rw w8 base rs[i] := hri.kept hg8 (row1 hri.t (by decide)) (fun k hk e1 => hA.2 k e1.symm hk)
   exact h8.kept h2 (fun e1 => hA.1 (by injection e1 with e1; exact e1.symm)) (row_ne h8.o hpt8 (by decide))
 ·
  refine List.pairwise_iff_getElem.2 fun i k hi hk hik => ?_
  rw [List.length_set] at hi hk
  rw [List.getElem_set, List.getElem_set]
  by_cases e : j = i
  ·
   rw [if_pos e, if_neg (by omega)]
   exact hapn k hk (by omega)
  ·
   rw [if_neg e]
   by_cases e2 : j = k
   ·
    rw [if_pos e2]; exact (hapn i hi (by omega)).symm
   ·
    rw [if_neg e2]; exact hap i k hi hk hik
end Go.Proofs.YtjgckfcocmhnhaaGreatDoor.Hy
namespace Go.Proofs.YtjgckfcocmhnhaaGreatDoor.Hy
open Go.RowKit
theorem BoxS.putV {w : World} {b : Nat} {s : Smp} (h : BoxS w b s) (o : Bool) (n : Int) : BoxS ((w.setCell ⟨b, 1, none⟩ (.bool o)).setCell ⟨b, 2, none⟩ (.int .i64 n)) b (s.1, o, n) := by
 obtain ⟨c0, c1, c2, f0, f1, f2⟩ := h
 refine ⟨(set_ne (by omega)).trans ((set_ne (by omega)).trans c0), (set_ne (by omega)).trans (set_same c1), set_same ((set_ne (by omega)).trans c2), ?_, ?_, ?_⟩
 ·
  simpa using f0
 ·
  simpa using f1
 ·
  simpa using f2
set_option maxHeartbeats 8000000 in
set_option maxRecDepth 100000 in
theorem add_there (j : Nat) (r : Rec) (hb : Nat) (now : Int) (ao : Option Addr) (n cap : Nat) (rs : List Rec) (q : Value) (t : Int) (xo : Bool) (xn : Int) (S : Nat → Bool) (w : World) (base : Nat) (hx : Hx w hb now base ao n cap rs)
  (his : ∀ W, Below w.heap.size w W → Calls Tryz.prog 37 #[q] W fun e w' => e = .returned (.bool true) ∧ Below W.heap.size W w') (hsame : ∀ j, j < n → ∀ W, Below w.heap.size w W → Calls Tryz.prog 45 #[(rs.getD j r0).2.1, q] W fun e w' => e = .returned (.bool (S j)) ∧ Below W.heap.size W w') (ht : 0 ≤ t ∧ t ≤ now ∧ now - 100 < t) (hF : Fst S n (some j)) (hr : rs.getD j r0 = r) (hxn : R64 xn) (hm1 : r.2.2.2.1 + 1 ≤ 1000000) (hbase : base ≤ w.heap.size) (hno1 : now - 100 < (lst r.2.2.2.2.2).1) (hlv : (lst r.2.2.2.2.2).1 < t) :
  Calls Tryz.prog 14 #[.pointer (some ⟨hb, 0, none⟩), q, sv (t, xo, xn)] w fun e w' => e = .returned (.int .i64 0) ∧ ∃ g c', Hx w' hb now base ao n cap (rs.set j (r.1, r.2.1, some ⟨g, 0, none⟩, r.2.2.2.1 + 1, c', r.2.2.2.2.2 ++ [(t, ov (cnt xo xn), nn (cnt xo xn))])) ∧ ((sl r).ownBlock = some g ∨ w.heap.size ≤ g) ∧ Gf w w' (fun k => k = r.1 ∨ (sl r).ownBlock = some k) := by
 have h := hx.hm
 have hb0 := bal (Below.refl _ w) (.cells #[.int .i64 t, .bool xo, .int .i64 xn] 35)
 have hB := BoxS.new w (t, xo, xn)
 have HM : Hid (∀ W, Below w.heap.size w W → Hm W hb now ao n cap rs) := fun W hW => h.later hW
 have hnow := h.now_
 have hn6 := h.n_
 have EW : Hid (wrap64 (now - 100) = now - 100) := by show _ = _; unfold wrap64; omega
 have hw0 := (HM.out _ hb0).c0
 have hfi := fun W (hW : Below w.heap.size w W) => find_any hb now ao n cap rs q S W (HM.out W hW) (fun j hj W2 hW2 => hsame j hj W2 (Below.chain hW hW2))
 have hj := hF.1
 have hrl : rs.length = n := h.p.1
 have hth := fun W (hW : Below w.heap.size w W) => (have hm := HM.out W hW; have hr := hm.r _ (getD_memR (by omega : j < rs.length)); there_any hb _ now _ _ _ _ _ W hm.c0 (by omega) hr.s hr.m hr.n)
 have hla := fun W (hW : Below w.heap.size w W) => (have hm := HM.out W hW; have hr := hm.r _ (getD_memR (by omega : j < rs.length)); last_any _ _ _ _ _ _ W hr.s hr.m hr.n)
 obtain ⟨P, lv, ar, m, c, l⟩ := r
 have hno := fun W => rnorm_any xo xn W hxn
 have HX : Hid (∀ W, Below w.heap.size w W → Hx W hb now base ao n cap rs) := fun W hW => hx.later hW
 have hmem : (P, lv, ar, m, c, l) ∈ rs := by rw [← hr]; exact getD_memR (by omega)
 have HR : Hid ((P, lv, ar, m, c, l) ∈ rs) := hmem
 have HPl : Hid (P < w.heap.size) := (hx.r _ hmem).t.lt
 have HBl : Hid (∀ k, (Value.slice ar m c).ownBlock = some k → k < w.heap.size) := fun k hk => (hx.r _ hmem).o.block hk
 obtain ⟨i0, hi, hz0, hz1, hz2⟩ := infoS_parts
 have hjr : j < rs.length := by omega
 rw [hr] at hth hla
 dsimp only at hth hla hlv hm1
 clear h hx hmem
 have d1 : decide (t < 0) = false := decide_eq_false (by omega)
 have d2 : decide (now < t) = false := decide_eq_false (by omega)
 have d3 : decide (t ≤ now - 100) = false := decide_eq_false (by omega)
 go_enter Tryz.func14, Tryz.ntmps14
 go_wp2_with fail
 refine (his _ hb0).mono ?_
 rintro e w1 ⟨rfl, hb1⟩
 have hb2 := Below.chain hb0 hb1
 have hx1 := hB.later hb1
 have hm1 := (HM.out _ hb2).c0
 clear hw0 hb0 hb1 hB
 obtain ⟨x0, x1, x2, g0, g1, g2⟩ := id hx1
 dsimp only at x0 x1 x2
 have e1 := EW.out
 go_wp2_with fail
 go_quiet (fail)
 generalize hwq : w1.drewN _ = wa
 have hba : Below w.heap.size w wa := by rw [← hwq]; exact below_drewN hb2 _
 have hxa : BoxS wa w.heap.size (t, xo, xn) := by rw [← hwq]; exact hx1.later (below_drewN (Below.refl _ _) _)
 clear hwq hx1 hm1 x0 x1 x2 g0 g1 g2 hb2 d1 d2 d3 e1
 go_wp2_with fail
 refine (hfi _ hba).mono ?_
 rintro e w2 ⟨o2, rfl, hF2, hb2⟩
 obtain rfl := hF2.unique hF
 clear hF2
 have hbb := Below.chain hba hb2
 have hxb : BoxS w2 w.heap.size (t, xo, xn) := hxa.later hb2
 dsimp only [ptO]
 rw [hr]
 dsimp only at hno1 ⊢
 generalize (lst l).1 = L at *
 have dt : decide (now - 100 < L) = true := decide_eq_true (by omega)
 have dq : decide (t ≤ L) = false := decide_eq_false (by omega)
 rw [dt] at hth
 go_wp2_with fail
 refine (hth _ hbb).mono ?_
 rintro e w3 ⟨rfl, hb3⟩
 have hbc := Below.chain hbb hb3
 have hxc : BoxS w3 w.heap.size (t, xo, xn) := hxb.later hb3
 go_wp2_with fail
 have qz : w3.drew.cell? ⟨w.heap.size, 0, none⟩ = some (Value.int .i64 t) := (hxc.later (Below.refl _ _).drew).c0
 have hb3d : Below w.heap.size w w3.drew := hbc.drew
 have hxd : BoxS w3.drew w.heap.size (t, xo, xn) := hxc.later (Below.refl _ _).drew
 have hS0 : (fun W : World => W.cell? ⟨w.heap.size, 0, none⟩ = some (Value.int .i64 t)) _ := qz
 refine wp_region_noPanic ?_
 refine wp_region_held_drew (S := fun W : World => W.cell? ⟨w.heap.size, 0, none⟩ = some (Value.int .i64 t)) (by kernel_rfl) hS0 (fun _ => ?_)
 refine take_at 0 (some 45) (.bool true) rfl rfl (by kernel_rfl) (by kernel_rfl) (by kernel_rfl) (fun _ _ _ h => h) (by rfl) (fun W hSw => by have q0 : W.cell? ⟨w.heap.size, 0, none⟩ = some (Value.int .i64 t) := hSw; go_simp) hS0 ?_
 simp only [Act.put, List.setIfInBounds_toArray, List.set_cons_zero, List.set_cons_succ]
 refine take_at 1 (some 46) (.bool true) rfl rfl (by kernel_rfl) (by kernel_rfl) (by kernel_rfl) (fun _ _ _ h => h) (by rfl) (fun W hSw => by have q0 : W.cell? ⟨w.heap.size, 0, none⟩ = some (Value.int .i64 t) := hSw; go_simp) hS0 ?_
 simp only [Act.put, List.setIfInBounds_toArray, List.set_cons_zero, List.set_cons_succ]
 refine take_at 2 (some 47) (.pointer (some ⟨P, 0, none⟩)) rfl rfl (by kernel_rfl) (by kernel_rfl) (by kernel_rfl) (fun _ _ _ h => h) (by rfl) (fun W hSw => by have q0 : W.cell? ⟨w.heap.size, 0, none⟩ = some (Value.int .i64 t) := hSw; go_simp) hS0 ?_
 simp only [Act.put, List.setIfInBounds_toArray, List.set_cons_zero, List.set_cons_succ]
 refine take_at 4 (some 49) (.pointer (some ⟨w.heap.size, 0, none⟩)) rfl rfl (by kernel_rfl) (by kernel_rfl) (by kernel_rfl) (fun _ _ _ h => h) (by rfl) (fun W hSw => by have q0 : W.cell? ⟨w.heap.size, 0, none⟩ = some (Value.int .i64 t) := hSw; go_simp) hS0 ?_
 simp only [Act.put, List.setIfInBounds_toArray, List.set_cons_zero, List.set_cons_succ]
 refine take_at 5 (some 50) (.int .i64 t) rfl rfl (by kernel_rfl) (by kernel_rfl) (by kernel_rfl) (fun _ _ _ h => h) (by rfl) (fun W hSw => by have q0 : W.cell? ⟨w.heap.size, 0, none⟩ = some (Value.int .i64 t) := hSw; go_simp) hS0 ?_
 simp only [Act.put, List.setIfInBounds_toArray, List.set_cons_zero, List.set_cons_succ]
 refine wpAnyH_ready (rs := [3]) (by kernel_rfl) (by simp) ?_
 refine AllReadyH.cons rfl (fun K hK => ?_) AllReadyH.nil
 go_simp
 refine (hla _ hb3d).mono ?_
 rintro e w4 ⟨rfl, hb4⟩
 have qz1 := (hb4.cell (World.block_lt_of_cell? _ _ qz)).trans qz
 have hS1 := (qz1 : (fun W : World => W.cell? ⟨w.heap.size, 0, none⟩ = some (Value.int .i64 t)) w4)
 refine hK.out _ _ hS1 (fun _ => ?_)
 clear hK K
 refine take_at 6 (some 51) (.bool false) rfl rfl (by kernel_rfl) (by kernel_rfl) (by kernel_rfl) (fun _ _ _ h => h) (by rfl) (fun W hSw => by go_simp) hS1 ?_
 simp only [Act.put, List.setIfInBounds_toArray, List.set_cons_zero, List.set_cons_succ]
 refine take_at 7 (some 52) (.bool false) rfl rfl (by kernel_rfl) (by kernel_rfl) (by kernel_rfl) (fun _ _ _ h => h) (by rfl) (fun W hSw => by have q0 : W.cell? ⟨w.heap.size, 0, none⟩ = some (Value.int .i64 t) := hSw; go_simp) hS1 ?_
 simp only [Act.put, List.setIfInBounds_toArray, List.set_cons_zero, List.set_cons_succ]
 refine wpAnyH_done (by kernel_rfl) ?_ _
 refine NoPanic.normal ?_
 have hbe := Below.chain hb3d hb4
 have hxe : BoxS w4 w.heap.size (t, xo, xn) := hxd.later hb4
 clear hxa hxb hxc hxd qz qz1 hS0 hS1 hb3 hb4 hbc hbb hb3d hba hb2
 obtain ⟨v0, v1, v2, v3, v4, v5⟩ := id hxe
 dsimp only at v0 v1 v2
 go_wp2_with fail
 refine (hno _).mono ?_
 rintro e w6 ⟨rfl, hb6⟩
 have hx6a : BoxS w6 w.heap.size (t, xo, xn) := hxe.later hb6
 have hb6c : Below w.heap.size w w6 := Below.chain hbe hb6
 obtain ⟨y0, y1, y2, z0, z1, z2⟩ := id hx6a
 dsimp only at y0 y1 y2
 clear v0 v1 v2 v3 v4 v5
 generalize hfo : ov (cnt xo xn) = fo at *
 generalize hfn : nn (cnt xo xn) = fn at *
 have HFo : Hid (ov (cnt xo xn) = fo) := hfo
 have HFn : Hid (nn (cnt xo xn) = fn) := hfn
 clear hfo hfn
 have hx6b : BoxS ((w6.setCell ⟨w.heap.size, 1, none⟩ (.bool fo)).setCell ⟨w.heap.size, 2, none⟩ (.int .i64 fn)) w.heap.size (t, fo, fn) := hx6a.putV fo fn
 have hb6d : Below w.heap.size w ((w6.setCell ⟨w.heap.size, 1, none⟩ (.bool fo)).setCell ⟨w.heap.size, 2, none⟩ (.int .i64 fn)) := (hb6c.setCell (p := ⟨w.heap.size, 1, none⟩) (Nat.le_refl _) _).setCell (p := ⟨w.heap.size, 2, none⟩) (Nat.le_refl _) _
 go_wp2_with fail
 generalize (w6.setCell ⟨w.heap.size, 1, none⟩ (.bool fo)).setCell ⟨w.heap.size, 2, none⟩ (.int .i64 fn) = w7 at *
 clear hx6a y0 y1 y2 z0 z1 z2
 have hx6 : BoxS w7.drew w.heap.size (t, fo, fn) := hx6b.later (Below.refl _ _).drew
 have hb7 : Below w.heap.size w w7.drew := hb6d.drew
 have hbal := bal (Below.refl _ w7.drew) (.cells #[.int .i64 t, .bool fo, .int .i64 fn] 35)
 have hx7 := hx6.later hbal
 have hy7 := BoxS.new w7.drew (t, fo, fn)
 have hb7a := Below.chain hb7 hbal
 have hX6 := HX.out _ hb7
 have hX7 := HX.out _ hb7a
 have hgf7 : Gf w _ (fun k => k = P ∨ (Value.slice ar m c).ownBlock = some k) := Gf.below hb7a
 have hrw6 := hX6.r _ HR.out
 have hrw7 := hX7.r _ HR.out
 have hown : (w7.drew.alloc (.cells #[.int .i64 t, .bool fo, .int .i64 fn] 35)).ownsRow base 35 3 (.slice ar m c) m (cellsS l) := by have h1 := hrw7.o; have h2 := hrw7.m.m.1; dsimp only at h2; unfold Own at h1; dsimp only [sl] at h1; rw [h2] at h1; exact h1
 have hbs7 : base ≤ (w7.drew.alloc (.cells #[.int .i64 t, .bool fo, .int .i64 fn] 35)).heap.size := Nat.le_trans hbase (Gf.below (F := fun _ => False) hb7a).size
 have c6 := hrw6.m.s.c1
 have c7 := hrw7.m.s.c1
 have c6a : (w7.alloc (.cells #[.int .i64 t, .bool fo, .int .i64 fn] 35)).cell? ⟨P, 1, none⟩ = some (.slice ar m c) := c7
 dsimp only [sl] at c6 c7
 have hPne : some P ≠ (Value.slice ar m c).ownBlock := fun e1 => (row_ne hrw7.o hrw7.t (by decide)) P e1.symm rfl
 have hBw : w.heap.size ≠ P := fun e1 => by have := HPl.out; omega
 have hBP : some w.heap.size ≠ some P := fun e1 => hBw (by injection e1)
 have hbox : ∀ k, k = w.heap.size → some k ≠ (Value.slice ar m c).ownBlock := by
  intro k hk e1
  have := HBl.out k e1.symm
  omega
 clear hX6 hrw6 hb6d hb6c
 have hS0 : (fun W : World => W.cell? ⟨w.heap.size, 0, none⟩ = some (Value.int .i64 t) ∧ W.cell? ⟨w.heap.size, 1, none⟩ = some (Value.bool fo) ∧ W.cell? ⟨w.heap.size, 2, none⟩ = some (Value.int .i64 fn)) _ := ⟨hx6.c0, hx6.c1, hx6.c2⟩
 refine wp_region_noPanic ?_
 refine wp_region_held_drew (S := fun W : World => W.cell? ⟨w.heap.size, 0, none⟩ = some (Value.int .i64 t) ∧ W.cell? ⟨w.heap.size, 1, none⟩ = some (Value.bool fo) ∧ W.cell? ⟨w.heap.size, 2, none⟩ = some (Value.int .i64 fn)) (by kernel_rfl) hS0 (fun _ => ?_)
 refine take_at 0 (some 66) (.pointer (some ⟨P, 0, none⟩)) rfl rfl (by kernel_rfl) (by kernel_rfl) (by kernel_rfl) (fun _ _ _ h => h) (by rfl) (fun W hSw => by obtain ⟨q0, q1, q2⟩ := hSw; go_simp) hS0 ?_
 simp only [Act.put, List.setIfInBounds_toArray, List.set_cons_zero, List.set_cons_succ]
 refine take_at 1 (some 67) (.pointer (some ⟨P, 0, none⟩)) rfl rfl (by kernel_rfl) (by kernel_rfl) (by kernel_rfl) (fun _ _ _ h => h) (by rfl) (fun W hSw => by obtain ⟨q0, q1, q2⟩ := hSw; go_simp) hS0 ?_
 simp only [Act.put, List.setIfInBounds_toArray, List.set_cons_zero, List.set_cons_succ]
 refine take_at 2 (some 68) (.pointer (some ⟨P, 0, none⟩)) rfl rfl (by kernel_rfl) (by kernel_rfl) (by kernel_rfl) (fun _ _ _ h => h) (by rfl) (fun W hSw => by obtain ⟨q0, q1, q2⟩ := hSw; go_simp) hS0 ?_
 simp only [Act.put, List.setIfInBounds_toArray, List.set_cons_zero, List.set_cons_succ]
 refine take_at 3 (some 69) (.pointer (some ⟨P, 1, none⟩)) rfl rfl (by kernel_rfl) (by kernel_rfl) (by kernel_rfl) (fun _ _ _ h => h) (by rfl) (fun W hSw => by obtain ⟨q0, q1, q2⟩ := hSw; go_simp) hS0 ?_
 simp only [Act.put, List.setIfInBounds_toArray, List.set_cons_zero, List.set_cons_succ]
 refine take_at 5 (some 71) (.agg #[.int .i64 t, .bool fo, .int .i64 fn]) rfl rfl (by kernel_rfl) (by kernel_rfl) (by kernel_rfl) (fun _ _ _ h => h) (by rfl) (fun W hSw => by obtain ⟨q0, q1, q2⟩ := hSw; go_simp) hS0 ?_
 simp only [Act.put, List.setIfInBounds_toArray, List.set_cons_zero, List.set_cons_succ]
 have hS7 : (fun W : World => W.cell? ⟨w.heap.size, 0, none⟩ = some (Value.int .i64 t) ∧ W.cell? ⟨w.heap.size, 1, none⟩ = some (Value.bool fo) ∧ W.cell? ⟨w.heap.size, 2, none⟩ = some (Value.int .i64 fn)) _ := ⟨hx7.c0, hx7.c1, hx7.c2⟩
 refine' (fun (H : Hid _) => ?_) ?_
 rotate_left
 ·
  refine wpAnyH_ready (rs := [4, 6]) (by kernel_rfl) (by simp) ?_
  refine AllReadyH.cons rfl (fun K hK => ?_) (AllReadyH.cons rfl (fun K hK => ?_) AllReadyH.nil)
  ·
   go_simp
   refine hK.out _ _ hS0 (fun _ => ?_)
   clear hK K
   refine wpAnyH_ready (rs := [6]) (by kernel_rfl) (by simp) ?_
   refine AllReadyH.cons rfl (fun K hK => ?_) AllReadyH.nil
   go_simp
   refine hK.out _ _ hS7 (fun _ => ?_)
   clear hK K
   exact H.out
  ·
   go_simp
   refine hK.out _ _ hS7 (fun _ => ?_)
   clear hK K
   refine wpAnyH_ready (rs := [4]) (by kernel_rfl) (by simp) ?_
   refine AllReadyH.cons rfl (fun K hK => ?_) AllReadyH.nil
   go_simp
   refine hK.out _ _ hS7 (fun _ => ?_)
   clear hK K
   exact H.out
 ·
  unfold Hid
  refine wpAnyH_ready (rs := [7]) (by kernel_rfl) (by simp) ?_
  refine AllReadyH.cons rfl (fun K hK => ?_) AllReadyH.nil
  refine step_append_lies _ rfl (.tmp 70) (.tmp 72) 51 rfl base 35 i0 (sv s0) 3 24 Tryz.underlying51 hi hz0 hz1 hz2 zeroS (by decide) (.slice ar m c) m (cellsS l) rfl hown ⟨w7.drew.heap.size, 0, none⟩ 1 1 (cellsS [(t, fo, fn)]) rfl rfl hy7.cells (cellsS_one _) (by decide) (by unfold maxLen; omega) (by omega) hbs7 _ rfl ?_
  intro g c9 w8 ho8 hg8 hl8 hlt8
  have hgw : (Value.slice ar m c).ownBlock = some g ∨ w.heap.size ≤ g := by
   have h9 := (Gf.below (F := fun _ => False) hb7a).size
   rcases hl8 with e | e
   ·
    exact Or.inl e
   ·
    exact Or.inr (by rw [e]; exact h9)
  have hx8 := hx7.kept hg8 (hbox _ rfl)
  have hS8 := (⟨hx8.c0, hx8.c1, hx8.c2⟩ : (fun W : World => W.cell? ⟨w.heap.size, 0, none⟩ = some (Value.int .i64 t) ∧ W.cell? ⟨w.heap.size, 1, none⟩ = some (Value.bool fo) ∧ W.cell? ⟨w.heap.size, 2, none⟩ = some (Value.int .i64 fn)) _)
  refine hK.out _ _ hS8 (fun _ => ?_)
  clear hK K
  have hX9 := hX7.snoc hjr hr hm1 ho8 hg8 hl8
  have b1 := hg8.cell hrw7.m.s.c1 hPne
  have bf := grown_frozen hg8 hrw7.t.lt hrw7.f hPne
  dsimp only at b1 bf
  refine take_at 8 (some 74) (.pointer (some ⟨P, 0, none⟩)) rfl rfl (by kernel_rfl) (by kernel_rfl) (by kernel_rfl) (fun _ _ _ h => h) (by rfl) (fun W hSw => by obtain ⟨q0, q1, q2⟩ := hSw; go_simp) hS8 ?_
  simp only [Act.put, List.setIfInBounds_toArray]
  refine take_at 9 (some 75) (.pointer (some ⟨P, 1, none⟩)) rfl rfl (by kernel_rfl) (by kernel_rfl) (by kernel_rfl) (fun _ _ _ h => h) (by rfl) (fun W hSw => by obtain ⟨q0, q1, q2⟩ := hSw; go_simp) hS8 ?_
  simp only [Act.put]
  refine wpAnyH_ready (rs := [10]) (by kernel_rfl) (by simp) ?_
  refine AllReadyH.cons rfl (fun K hK => ?_) AllReadyH.nil
  go_simp
  have hx9 := hx8.kept (grown_set w8 P 1 (.slice (some ⟨g, 0, none⟩) (m + 1) c9)) hBP
  have hS9 := (⟨hx9.c0, hx9.c1, hx9.c2⟩ : (fun W : World => W.cell? ⟨w.heap.size, 0, none⟩ = some (Value.int .i64 t) ∧ W.cell? ⟨w.heap.size, 1, none⟩ = some (Value.bool fo) ∧ W.cell? ⟨w.heap.size, 2, none⟩ = some (Value.int .i64 fn)) _)
  refine hK.out _ _ hS9 (fun _ => ?_)
  clear hK K
  refine wpAnyH_done (by kernel_rfl) ?_ _
  refine NoPanic.normal ?_
  go_wp2
  go_ret
  exact ⟨rfl, g, ⟨c9, by rw [HFo.out, HFn.out]; exact hX9⟩, hgw, (hgf7.step hg8 (fun k e1 _ => Or.inr e1)).step (grown_set w8 P 1 _) (fun k e1 _ => Or.inl (by injection e1 with e1; exact e1.symm))⟩
set_option maxHeartbeats 8000000 in
set_option maxRecDepth 100000 in
theorem add_back (j : Nat) (r : Rec) (hb : Nat) (now : Int) (ao : Option Addr) (n cap : Nat) (rs : List Rec) (q : Value) (t : Int) (xo : Bool) (xn : Int) (S : Nat → Bool) (w : World) (base : Nat) (hx : Hx w hb now base ao n cap rs)
  (his : ∀ W, Below w.heap.size w W → Calls Tryz.prog 37 #[q] W fun e w' => e = .returned (.bool true) ∧ Below W.heap.size W w') (hsame : ∀ j, j < n → ∀ W, Below w.heap.size w W → Calls Tryz.prog 45 #[(rs.getD j r0).2.1, q] W fun e w' => e = .returned (.bool (S j)) ∧ Below W.heap.size W w') (ht : 0 ≤ t ∧ t ≤ now ∧ now - 100 < t) (hF : Fst S n (some j)) (hr : rs.getD j r0 = r) (hxn : R64 xn) (hm1 : r.2.2.2.1 + 1 ≤ 1000000) (hbase : base ≤ w.heap.size) (hno1 : (lst r.2.2.2.2.2).1 ≤ now - 100) (hlv : lvN now rs n < 16) :
  Calls Tryz.prog 14 #[.pointer (some ⟨hb, 0, none⟩), q, sv (t, xo, xn)] w fun e w' => e = .returned (.int .i64 0) ∧ ∃ g c', Hx w' hb now base ao n cap (rs.set j (r.1, r.2.1, some ⟨g, 0, none⟩, r.2.2.2.1 + 1, c', r.2.2.2.2.2 ++ [(t, ov (cnt xo xn), nn (cnt xo xn))])) ∧ ((sl r).ownBlock = some g ∨ w.heap.size ≤ g) ∧ Gf w w' (fun k => k = r.1 ∨ (sl r).ownBlock = some k) := by
 have h := hx.hm
 have hb0 := bal (Below.refl _ w) (.cells #[.int .i64 t, .bool xo, .int .i64 xn] 35)
 have hB := BoxS.new w (t, xo, xn)
 have HM : Hid (∀ W, Below w.heap.size w W → Hm W hb now ao n cap rs) := fun W hW => h.later hW
 have hnow := h.now_
 have hn6 := h.n_
 have EW : Hid (wrap64 (now - 100) = now - 100) := by show _ = _; unfold wrap64; omega
 have hw0 := (HM.out _ hb0).c0
 have hfi := fun W (hW : Below w.heap.size w W) => find_any hb now ao n cap rs q S W (HM.out W hW) (fun j hj W2 hW2 => hsame j hj W2 (Below.chain hW hW2))
 have hj := hF.1
 have hrl : rs.length = n := h.p.1
 have hth := fun W (hW : Below w.heap.size w W) => (have hm := HM.out W hW; have hr := hm.r _ (getD_memR (by omega : j < rs.length)); there_any hb _ now _ _ _ _ _ W hm.c0 (by omega) hr.s hr.m hr.n)
 have hla := fun W (hW : Below w.heap.size w W) => (have hm := HM.out W hW; have hr := hm.r _ (getD_memR (by omega : j < rs.length)); last_any _ _ _ _ _ _ W hr.s hr.m hr.n)
 obtain ⟨P, lv, ar, m, c, l⟩ := r
 have hno := fun W => rnorm_any xo xn W hxn
 have HX : Hid (∀ W, Below w.heap.size w W → Hx W hb now base ao n cap rs) := fun W hW => hx.later hW
 have hmem : (P, lv, ar, m, c, l) ∈ rs := by rw [← hr]; exact getD_memR (by omega)
 have HR : Hid ((P, lv, ar, m, c, l) ∈ rs) := hmem
 have HPl : Hid (P < w.heap.size) := (hx.r _ hmem).t.lt
 have HBl : Hid (∀ k, (Value.slice ar m c).ownBlock = some k → k < w.heap.size) := fun k hk => (hx.r _ hmem).o.block hk
 obtain ⟨i0, hi, hz0, hz1, hz2⟩ := infoS_parts
 have hjr : j < rs.length := by omega
 rw [hr] at hth hla
 dsimp only at hth hla hm1
 have hli := fun W (hW : Below w.heap.size w W) => live_any hb now ao n cap rs W (HM.out W hW)
 have hle := lvN_le now rs n
 clear h hx hmem hla
 have d1 : decide (t < 0) = false := decide_eq_false (by omega)
 have d2 : decide (now < t) = false := decide_eq_false (by omega)
 have d3 : decide (t ≤ now - 100) = false := decide_eq_false (by omega)
 go_enter Tryz.func14, Tryz.ntmps14
 go_wp2_with fail
 refine (his _ hb0).mono ?_
 rintro e w1 ⟨rfl, hb1⟩
 have hb2 := Below.chain hb0 hb1
 have hx1 := hB.later hb1
 have hm1 := (HM.out _ hb2).c0
 clear hw0 hb0 hb1 hB
 obtain ⟨x0, x1, x2, g0, g1, g2⟩ := id hx1
 dsimp only at x0 x1 x2
 have e1 := EW.out
 go_wp2_with fail
 go_quiet (fail)
 generalize hwq : w1.drewN _ = wa
 have hba : Below w.heap.size w wa := by rw [← hwq]; exact below_drewN hb2 _
 have hxa : BoxS wa w.heap.size (t, xo, xn) := by rw [← hwq]; exact hx1.later (below_drewN (Below.refl _ _) _)
 clear hwq hx1 hm1 x0 x1 x2 g0 g1 g2 hb2 d1 d2 d3 e1
 go_wp2_with fail
 refine (hfi _ hba).mono ?_
 rintro e w2 ⟨o2, rfl, hF2, hb2⟩
 obtain rfl := hF2.unique hF
 clear hF2
 have hbb := Below.chain hba hb2
 have hxb : BoxS w2 w.heap.size (t, xo, xn) := hxa.later hb2
 dsimp only [ptO]
 rw [hr]
 dsimp only at hno1 ⊢
 generalize (lst l).1 = L at *
 have dt : decide (now - 100 < L) = false := decide_eq_false (by omega)
 rw [dt] at hth
 obtain ⟨u, hu⟩ : ∃ u, lvN now rs n = u := ⟨_, rfl⟩
 rw [hu] at hlv hli hle
 have dl : decide ((16 : Int) ≤ (u : Int)) = false := decide_eq_false (by omega)
 go_wp2_with fail
 refine (hth _ hbb).mono ?_
 rintro e w3 ⟨rfl, hb3⟩
 have hbc := Below.chain hbb hb3
 have hxc : BoxS w3 w.heap.size (t, xo, xn) := hxb.later hb3
 go_wp2_with fail
 go_quiet (fail)
 generalize hwq : w3.drewN _ = w4
 have hbd : Below w.heap.size w w4 := by rw [← hwq]; exact below_drewN hbc _
 have hxd : BoxS w4 w.heap.size (t, xo, xn) := by rw [← hwq]; exact hxc.later (below_drewN (Below.refl _ _) _)
 clear hwq
 go_wp2_with fail
 refine (hli _ hbd).mono ?_
 rintro e w5 ⟨rfl, hb5⟩
 have hbe := Below.chain hbd hb5
 have hxe : BoxS w5 w.heap.size (t, xo, xn) := hxd.later hb5
 clear hxa hxb hxc hxd hb3 hb5 hbc hbb hbd hba hb2 hu
 obtain ⟨v0, v1, v2, v3, v4, v5⟩ := id hxe
 dsimp only at v0 v1 v2
 go_wp2_with fail
 refine (hno _).mono ?_
 rintro e w6 ⟨rfl, hb6⟩
 have hx6a : BoxS w6 w.heap.size (t, xo, xn) := hxe.later hb6
 have hb6c : Below w.heap.size w w6 := Below.chain hbe hb6
 obtain ⟨y0, y1, y2, z0, z1, z2⟩ := id hx6a
 dsimp only at y0 y1 y2
 clear v0 v1 v2 v3 v4 v5
 generalize hfo : ov (cnt xo xn) = fo at *
 generalize hfn : nn (cnt xo xn) = fn at *
 have HFo : Hid (ov (cnt xo xn) = fo) := hfo
 have HFn : Hid (nn (cnt xo xn) = fn) := hfn
 clear hfo hfn
 have hx6b : BoxS ((w6.setCell ⟨w.heap.size, 1, none⟩ (.bool fo)).setCell ⟨w.heap.size, 2, none⟩ (.int .i64 fn)) w.heap.size (t, fo, fn) := hx6a.putV fo fn
 have hb6d : Below w.heap.size w ((w6.setCell ⟨w.heap.size, 1, none⟩ (.bool fo)).setCell ⟨w.heap.size, 2, none⟩ (.int .i64 fn)) := (hb6c.setCell (p := ⟨w.heap.size, 1, none⟩) (Nat.le_refl _) _).setCell (p := ⟨w.heap.size, 2, none⟩) (Nat.le_refl _) _
 go_wp2_with fail
 generalize (w6.setCell ⟨w.heap.size, 1, none⟩ (.bool fo)).setCell ⟨w.heap.size, 2, none⟩ (.int .i64 fn) = w7 at *
 clear hx6a y0 y1 y2 z0 z1 z2
 have hx6 : BoxS w7.drew w.heap.size (t, fo, fn) := hx6b.later (Below.refl _ _).drew
 have hb7 : Below w.heap.size w w7.drew := hb6d.drew
 have hbal := bal (Below.refl _ w7.drew) (.cells #[.int .i64 t, .bool fo, .int .i64 fn] 35)
 have hx7 := hx6.later hbal
 have hy7 := BoxS.new w7.drew (t, fo, fn)
 have hb7a := Below.chain hb7 hbal
 have hX6 := HX.out _ hb7
 have hX7 := HX.out _ hb7a
 have hgf7 : Gf w _ (fun k => k = P ∨ (Value.slice ar m c).ownBlock = some k) := Gf.below hb7a
 have hrw6 := hX6.r _ HR.out
 have hrw7 := hX7.r _ HR.out
 have hown : (w7.drew.alloc (.cells #[.int .i64 t, .bool fo, .int .i64 fn] 35)).ownsRow base 35 3 (.slice ar m c) m (cellsS l) := by have h1 := hrw7.o; have h2 := hrw7.m.m.1; dsimp only at h2; unfold Own at h1; dsimp only [sl] at h1; rw [h2] at h1; exact h1
 have hbs7 : base ≤ (w7.drew.alloc (.cells #[.int .i64 t, .bool fo, .int .i64 fn] 35)).heap.size := Nat.le_trans hbase (Gf.below (F := fun _ => False) hb7a).size
 have c6 := hrw6.m.s.c1
 have c7 := hrw7.m.s.c1
 have c6a : (w7.alloc (.cells #[.int .i64 t, .bool fo, .int .i64 fn] 35)).cell? ⟨P, 1, none⟩ = some (.slice ar m c) := c7
 dsimp only [sl] at c6 c7
 have hPne : some P ≠ (Value.slice ar m c).ownBlock := fun e1 => (row_ne hrw7.o hrw7.t (by decide)) P e1.symm rfl
 have hBw : w.heap.size ≠ P := fun e1 => by have := HPl.out; omega
 have hBP : some w.heap.size ≠ some P := fun e1 => hBw (by injection e1)
 have hbox : ∀ k, k = w.heap.size → some k ≠ (Value.slice ar m c).ownBlock := by
  intro k hk e1
  have := HBl.out k e1.symm
  omega
 clear hX6 hrw6 hb6d hb6c
 have hS0 : (fun W : World => W.cell? ⟨w.heap.size, 0, none⟩ = some (Value.int .i64 t) ∧ W.cell? ⟨w.heap.size, 1, none⟩ = some (Value.bool fo) ∧ W.cell? ⟨w.heap.size, 2, none⟩ = some (Value.int .i64 fn)) _ := ⟨hx6.c0, hx6.c1, hx6.c2⟩
 refine wp_region_noPanic ?_
 refine wp_region_held_drew (S := fun W : World => W.cell? ⟨w.heap.size, 0, none⟩ = some (Value.int .i64 t) ∧ W.cell? ⟨w.heap.size, 1, none⟩ = some (Value.bool fo) ∧ W.cell? ⟨w.heap.size, 2, none⟩ = some (Value.int .i64 fn)) (by kernel_rfl) hS0 (fun _ => ?_)
 refine take_at 0 (some 66) (.pointer (some ⟨P, 0, none⟩)) rfl rfl (by kernel_rfl) (by kernel_rfl) (by kernel_rfl) (fun _ _ _ h => h) (by rfl) (fun W hSw => by obtain ⟨q0, q1, q2⟩ := hSw; go_simp) hS0 ?_
 simp only [Act.put, List.setIfInBounds_toArray, List.set_cons_zero, List.set_cons_succ]
 refine take_at 1 (some 67) (.pointer (some ⟨P, 0, none⟩)) rfl rfl (by kernel_rfl) (by kernel_rfl) (by kernel_rfl) (fun _ _ _ h => h) (by rfl) (fun W hSw => by obtain ⟨q0, q1, q2⟩ := hSw; go_simp) hS0 ?_
 simp only [Act.put, List.setIfInBounds_toArray, List.set_cons_zero, List.set_cons_succ]
 refine take_at 2 (some 68) (.pointer (some ⟨P, 0, none⟩)) rfl rfl (by kernel_rfl) (by kernel_rfl) (by kernel_rfl) (fun _ _ _ h => h) (by rfl) (fun W hSw => by obtain ⟨q0, q1, q2⟩ := hSw; go_simp) hS0 ?_
 simp only [Act.put, List.setIfInBounds_toArray, List.set_cons_zero, List.set_cons_succ]
 refine take_at 3 (some 69) (.pointer (some ⟨P, 1, none⟩)) rfl rfl (by kernel_rfl) (by kernel_rfl) (by kernel_rfl) (fun _ _ _ h => h) (by rfl) (fun W hSw => by obtain ⟨q0, q1, q2⟩ := hSw; go_simp) hS0 ?_
 simp only [Act.put, List.setIfInBounds_toArray, List.set_cons_zero, List.set_cons_succ]
 refine take_at 5 (some 71) (.agg #[.int .i64 t, .bool fo, .int .i64 fn]) rfl rfl (by kernel_rfl) (by kernel_rfl) (by kernel_rfl) (fun _ _ _ h => h) (by rfl) (fun W hSw => by obtain ⟨q0, q1, q2⟩ := hSw; go_simp) hS0 ?_
 simp only [Act.put, List.setIfInBounds_toArray, List.set_cons_zero, List.set_cons_succ]
 have hS7 : (fun W : World => W.cell? ⟨w.heap.size, 0, none⟩ = some (Value.int .i64 t) ∧ W.cell? ⟨w.heap.size, 1, none⟩ = some (Value.bool fo) ∧ W.cell? ⟨w.heap.size, 2, none⟩ = some (Value.int .i64 fn)) _ := ⟨hx7.c0, hx7.c1, hx7.c2⟩
 refine' (fun (H : Hid _) => ?_) ?_
 rotate_left
 ·
  refine wpAnyH_ready (rs := [4, 6]) (by kernel_rfl) (by simp) ?_
  refine AllReadyH.cons rfl (fun K hK => ?_) (AllReadyH.cons rfl (fun K hK => ?_) AllReadyH.nil)
  ·
   go_simp
   refine hK.out _ _ hS0 (fun _ => ?_)
   clear hK K
   refine wpAnyH_ready (rs := [6]) (by kernel_rfl) (by simp) ?_
   refine AllReadyH.cons rfl (fun K hK => ?_) AllReadyH.nil
   go_simp
   refine hK.out _ _ hS7 (fun _ => ?_)
   clear hK K
   exact H.out
  ·
   go_simp
   refine hK.out _ _ hS7 (fun _ => ?_)
   clear hK K
   refine wpAnyH_ready (rs := [4]) (by kernel_rfl) (by simp) ?_
   refine AllReadyH.cons rfl (fun K hK => ?_) AllReadyH.nil
   go_simp
   refine hK.out _ _ hS7 (fun _ => ?_)
   clear hK K
   exact H.out
 ·
  unfold Hid
  refine wpAnyH_ready (rs := [7]) (by kernel_rfl) (by simp) ?_
  refine AllReadyH.cons rfl (fun K hK => ?_) AllReadyH.nil
  refine step_append_lies _ rfl (.tmp 70) (.tmp 72) 51 rfl base 35 i0 (sv s0) 3 24 Tryz.underlying51 hi hz0 hz1 hz2 zeroS (by decide) (.slice ar m c) m (cellsS l) rfl hown ⟨w7.drew.heap.size, 0, none⟩ 1 1 (cellsS [(t, fo, fn)]) rfl rfl hy7.cells (cellsS_one _) (by decide) (by unfold maxLen; omega) (by omega) hbs7 _ rfl ?_
  intro g c9 w8 ho8 hg8 hl8 hlt8
  have hgw : (Value.slice ar m c).ownBlock = some g ∨ w.heap.size ≤ g := by
   have h9 := (Gf.below (F := fun _ => False) hb7a).size
   rcases hl8 with e | e
   ·
    exact Or.inl e
   ·
    exact Or.inr (by rw [e]; exact h9)
  have hx8 := hx7.kept hg8 (hbox _ rfl)
  have hS8 := (⟨hx8.c0, hx8.c1, hx8.c2⟩ : (fun W : World => W.cell? ⟨w.heap.size, 0, none⟩ = some (Value.int .i64 t) ∧ W.cell? ⟨w.heap.size, 1, none⟩ = some (Value.bool fo) ∧ W.cell? ⟨w.heap.size, 2, none⟩ = some (Value.int .i64 fn)) _)
  refine hK.out _ _ hS8 (fun _ => ?_)
  clear hK K
  have hX9 := hX7.snoc hjr hr hm1 ho8 hg8 hl8
  have b1 := hg8.cell hrw7.m.s.c1 hPne
  have bf := grown_frozen hg8 hrw7.t.lt hrw7.f hPne
  dsimp only at b1 bf
  refine take_at 8 (some 74) (.pointer (some ⟨P, 0, none⟩)) rfl rfl (by kernel_rfl) (by kernel_rfl) (by kernel_rfl) (fun _ _ _ h => h) (by rfl) (fun W hSw => by obtain ⟨q0, q1, q2⟩ := hSw; go_simp) hS8 ?_
  simp only [Act.put, List.setIfInBounds_toArray]
  refine take_at 9 (some 75) (.pointer (some ⟨P, 1, none⟩)) rfl rfl (by kernel_rfl) (by kernel_rfl) (by kernel_rfl) (fun _ _ _ h => h) (by rfl) (fun W hSw => by obtain ⟨q0, q1, q2⟩ := hSw; go_simp) hS8 ?_
  simp only [Act.put]
  refine wpAnyH_ready (rs := [10]) (by kernel_rfl) (by simp) ?_
  refine AllReadyH.cons rfl (fun K hK => ?_) AllReadyH.nil
  go_simp
  have hx9 := hx8.kept (grown_set w8 P 1 (.slice (some ⟨g, 0, none⟩) (m + 1) c9)) hBP
  have hS9 := (⟨hx9.c0, hx9.c1, hx9.c2⟩ : (fun W : World => W.cell? ⟨w.heap.size, 0, none⟩ = some (Value.int .i64 t) ∧ W.cell? ⟨w.heap.size, 1, none⟩ = some (Value.bool fo) ∧ W.cell? ⟨w.heap.size, 2, none⟩ = some (Value.int .i64 fn)) _)
  refine hK.out _ _ hS9 (fun _ => ?_)
  clear hK K
  refine wpAnyH_done (by kernel_rfl) ?_ _
  refine NoPanic.normal ?_
  go_wp2
  go_ret
  exact ⟨rfl, g, ⟨c9, by rw [HFo.out, HFn.out]; exact hX9⟩, hgw, (hgf7.step hg8 (fun k e1 _ => Or.inr e1)).step (grown_set w8 P 1 _) (fun k e1 _ => Or.inl (by injection e1 with e1; exact e1.symm))⟩
end Go.Proofs.YtjgckfcocmhnhaaGreatDoor.Hy
