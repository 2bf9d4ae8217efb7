/- Texts that the others lean on. -/
import Derived.Test.YteankdaegdhfiaaGreatDoorKYPd2
import Derived.Test.YteankdaegdhfiaaGreatDoorKMP
namespace Go.Proofs.YteankdaegdhfiaaGreatDoor
open Go.RowKit
theorem inf160 : (Tryz.prog.info? 215).map (·.size) = some 5 := by kernel_rfl
set_option maxHeartbeats 2000000 in
theorem rOp_any (k : Nat) (h1 : 1 ≤ k) (h4 : k ≤ 4) (w : World) : Calls Tryz.prog 139 #[.int .i64 k] w fun e w' => e = .returned (tx (mSg k)) ∧ Below w.heap.size w w' := by
 have q0 : ∀ o, (w.alloc (.cells o 215)).heap[w.heap.size]? = some (.cells o 215) := fun o => heap_new w _
 have B0 : ∀ o, Below w.heap.size w (w.alloc (.cells o 215)) := fun o => bal (Below.refl w.heap.size w) _
 have hc : ∀ W : World, W.heap[w.heap.size]? = some (.cells #[tx [], tx [61], tx [33, 61], tx [94, 61], tx [42, 61]] 215) → W.cell? ⟨w.heap.size, k, none⟩ = some (tx (mSg k)) := fun W hW => by
  rw [cell_at hW]
  rcases (by omega : k = 1 ∨ k = 2 ∨ k = 3 ∨ k = 4) with rfl | rfl | rfl | rfl <;> rfl
 generalize mSg k = s at *
 go_enter Tryz.func139, Tryz.ntmps139
 go_wp2_with (refine wp_put rfl 215 _ _ rfl w.heap.size #[tx [], tx [61], tx [33, 61], tx [94, 61], tx [42, 61]] rfl rfl _ 215 (q0 _) 5 inf160 rfl ⟨rfl, rfl⟩ ?_; intro w2 q2 o2 z2; clear z2; have c2 := hc _ q2)
 go_ret
 exact ⟨rfl, ((Off.of (B0 _) [w.heap.size]).then o2).below (by simp)⟩
theorem mkd_none {s : Str} (h : ∀ m : Nat, 1 ≤ m → m < 5 → mSg m ≠ s) : mkd s = 0 := by
 unfold mkd
 rw [if_neg (fun e => h 1 (by omega) (by omega) e.symm), if_neg (fun e => h 2 (by omega) (by omega) e.symm), if_neg (fun e => h 3 (by omega) (by omega) e.symm), if_neg (fun e => h 4 (by omega) (by omega) e.symm)]
theorem mkd_some {s : Str} {j : Nat} (h1 : 1 ≤ j) (h4 : j ≤ 4) (h : mSg j = s) : mkd s = j := by
 subst h
 rcases (by omega : j = 1 ∨ j = 2 ∨ j = 3 ∨ j = 4) with rfl | rfl | rfl | rfl <;> decide
set_option maxHeartbeats 2000000 in
theorem rkind_any (s : Str) (w : World) : Calls Tryz.prog 248 #[tx s] w fun e w' => e = .returned (.int .i64 (mkd s)) ∧ Below w.heap.size w w' := by
 have hop := fun (j : Nat) (h1 : 1 ≤ j) (h4 : j ≤ 4) W => rOp_any j h1 h4 W
 have HO : Hid _ := hop
 clear hop
 obtain ⟨V, HV⟩ : ∃ V, Hid (mkd s = V) := ⟨_, rfl⟩
 rw [HV.out]
 go_enter Tryz.func248, Tryz.ntmps248
 go_wp2_with fail
 go_loopw [3] (fun i wr => ∃ j : Nat, 1 ≤ j ∧ j ≤ 5 ∧ i = .int .i64 j ∧ Below w.heap.size w wr ∧ Hid (∀ m : Nat, 1 ≤ m → m < j → mSg m ≠ s)) (fun i _ => 5 - (intOf i).toNat)
 case atStart => exact ⟨1, by omega, by omega, rfl, Below.refl _ _, fun m h1 h2 => by omega⟩
 case round =>
  obtain ⟨j, hj1, hj5, rfl, B, HQ⟩ := hrel
  by_cases hlt : j ≤ 4
  ·
   have hlt' : (j : Int) ≤ 4 := by omega
   have ho := HO.out j hj1 hlt
   by_cases he : mSg j = s
   ·
    have HR : Hid (V = (j : Int)) := by show _ = _; rw [← HV.out]; exact mkd_some hj1 hlt he
    have he1 : (mSg j == s) = true := by rw [beq_iff_eq]; exact he
    generalize mSg j = x at *
    clear he HQ
    go_wp2_with fail
    refine (ho _).mono ?_
    rintro e w1 ⟨rfl, b1⟩
    go_wp2_with fail
    go_ret
    exact ⟨by rw [HR.out]; rfl, B.trans (b1.mono B.size)⟩
   ·
    have HN : Hid (∀ m : Nat, 1 ≤ m → m < j + 1 → mSg m ≠ s) := fun m h1 h2 => by
     by_cases e : m = j
     ·
      rw [e]; exact he
     ·
      exact HQ.out m h1 (by omega)
    have he1 : (mSg j == s) = false := by rw [beq_eq_false_iff_ne]; exact he
    clear he HQ
    obtain ⟨x, hx⟩ : ∃ x, Hid (mSg j = x) := ⟨_, rfl⟩
    rw [hx.out] at ho he1
    go_wp2_with fail
    refine (ho _).mono ?_
    rintro e w1 ⟨rfl, b1⟩
    go_wp2_with fail
    go_roundw
    case rel => exact ⟨j + 1, by omega, by omega, by go_num, B.trans (b1.mono B.size), HN⟩
    case measure => simp [intOf]; omega
  ·
   have hlt' : ¬ (j : Int) ≤ 4 := by omega
   have HR : Hid (V = 0) := by show _ = _; rw [← HV.out]; exact mkd_none (fun m h1 h2 => HQ.out m h1 (by omega))
   clear HQ
   go_wp2_with fail
   go_ret
   exact ⟨by rw [HR.out]; rfl, B⟩
/-! ### Twice -/
theorem once_all : ∀ (l : List Str), (∀ a b, b < a → a < l.length → l.getD a [] ≠ l.getD b []) → once l = true
 | [], _ => rfl
 | x :: l, h => by
  rw [once, once_all l (fun a b hb ha => by
   have := h (a + 1) (b + 1) (by omega) (by simpa using ha)
   simpa using this), Bool.and_true, Bool.not_eq_true']
  cases hc : l.contains x with
  | false => rfl
  | true =>
   obtain ⟨a, ha, e⟩ := List.getElem_of_mem (List.contains_iff_mem.1 hc)
   have := h (a + 1) 0 (by omega) (by simpa using ha)
   simp [List.getD, List.getElem?_eq_getElem ha] at this
   exact absurd e this
theorem once_not : ∀ (l : List Str) (a b : Nat), b < a → a < l.length → l.getD a [] = l.getD b [] → once l = false
 | [], a, b, _, h, _ => by simp at h
 | x :: l, 0, b, hb, _, _ => by omega
 | x :: l, a + 1, 0, _, ha, e => by
  have ha : a < l.length := by simpa using ha
  have : l.contains x = true := by
   rw [List.contains_iff_mem]
   have e : l[a] = x := by simpa [List.getD, List.getElem?_eq_getElem ha] using e
   rw [← e]
   exact List.getElem_mem ha
  rw [once, this]
  rfl
 | x :: l, a + 1, b + 1, hb, ha, e => by
  have := once_not l a b (by omega) (by simpa using ha) (by simpa using e)
  rw [once, this, Bool.and_false]
set_option maxHeartbeats 4000000 in
theorem rtwice_any (ao : Option Addr) (n c : Nat) (l : List Str) (w : World) (hn : n ≤ 1000000) (h : Ss w ao n l) : Calls Tryz.prog 115 #[.slice ao n c] w fun e w' => e = .returned (.bool (!once l)) ∧ Below w.heap.size w w' := by
 obtain ⟨hl, hs⟩ := h
 have HL : Hid (l.length = n) := hl
 have HS : Hid _ := hs
 obtain ⟨V, HV⟩ : ∃ V, Hid (once l = V) := ⟨_, rfl⟩
 rw [HV.out]
 clear hl hs
 go_enter Tryz.func115, Tryz.ntmps115
 go_wp2_with fail
 go_loopw [3] (fun i wr => ∃ j : Nat, j ≤ n ∧ i = .int .i64 j ∧ Below w.heap.size w wr ∧ Hid (∀ a b, b < a → a < j → l.getD a [] ≠ l.getD b [])) (fun i _ => n - (intOf i).toNat)
 case atStart => exact ⟨0, by omega, rfl, Below.refl _ _, fun a b _ h => by omega⟩
 case round =>
  obtain ⟨j, hj, rfl, B, HQ⟩ := hrel
  by_cases hlt : j < n
  ·
   have hlt' : (j : Int) < n := by omega
   obtain ⟨tb, off, rfl, hc⟩ := HS.out (by omega)
   have HC : Hid _ := hc
   have hcj := hc j hlt
   clear hc
   go_wp2_with fail
   go_loopw [4] (fun i wr => ∃ k : Nat, k ≤ j ∧ i = .int .i64 k ∧ Below w.heap.size w wr ∧ Hid (∀ b, b < k → l.getD j [] ≠ l.getD b [])) (fun i _ => j - (intOf i).toNat)
   case atStart => exact ⟨0, by omega, rfl, B, fun b h => by omega⟩
   case round =>
    clear B
    obtain ⟨k, hk, rfl, B, HK⟩ := hrel
    by_cases hlk : k < j
    ·
     have hlk' : (k : Int) < j := by omega
     have hck := HC.out k (by omega)
     have dj := (B.cell (World.block_lt_of_cell? _ _ hcj)).trans hcj
     have dk := (B.cell (World.block_lt_of_cell? _ _ hck)).trans hck
     by_cases he : l.getD j [] = l.getD k []
     ·
      have HR : Hid (V = false) := by show _ = _; rw [← HV.out]; exact once_not l j k hlk (by rw [HL.out]; exact hlt) he
      have he1 : (l.getD j [] == l.getD k []) = true := by rw [beq_iff_eq]; exact he
      clear he HK HQ hck hcj
      generalize l.getD j [] = x at *
      generalize l.getD k [] = y at *
      go_wp2_with fail
      go_quiet (fail)
      go_wp2
      go_ret
      exact ⟨by rw [HR.out]; rfl, below_drewN B _⟩
     ·
      have HN : Hid (∀ b, b < k + 1 → l.getD j [] ≠ l.getD b []) := fun b hb => by
       by_cases e : b = k
       ·
        rw [e]; exact he
       ·
        exact HK.out b (by omega)
      have he1 : (l.getD j [] == l.getD k []) = false := by rw [beq_eq_false_iff_ne]; exact he
      clear he HK hck
      obtain ⟨x, hx⟩ : ∃ x, Hid (l.getD j [] = x) := ⟨_, rfl⟩
      obtain ⟨y, hy⟩ : ∃ y, Hid (l.getD k [] = y) := ⟨_, rfl⟩
      rw [hx.out] at dj he1
      rw [hy.out] at dk he1
      clear hcj
      go_wp2_with fail
      go_quiet (fail)
      go_wp2
      go_roundw
      case rel => exact ⟨k + 1, by omega, by go_num, below_drewN B _, HN⟩
      case measure => simp [intOf]; omega
    ·
     have hlk' : ¬ (k : Int) < j := by omega
     have HN : Hid (∀ a b, b < a → a < j + 1 → l.getD a [] ≠ l.getD b []) := fun a b hb ha => by
      by_cases e : a = j
      ·
       rw [e]; exact HK.out b (by omega)
      ·
       exact HQ.out a b hb (by omega)
     clear HK HQ hcj
     go_wp2_with fail
     go_roundw
     case rel => exact ⟨j + 1, by omega, by go_num, B, HN⟩
     case measure => simp [intOf]; omega
  ·
   have hlt' : ¬ (j : Int) < n := by omega
   have HR : Hid (V = true) := by show _ = _; rw [← HV.out]; exact once_all l (fun a b hb ha => HQ.out a b hb (by rw [HL.out] at ha; omega))
   clear HQ
   go_wp2_with fail
   go_ret
   exact ⟨by rw [HR.out]; rfl, B⟩
end Go.Proofs.YteankdaegdhfiaaGreatDoor
