/- CounterShifts, walked. -/
import Derived.Test.YthcakiibkocheaaCShP
import Derived.Test.YthcakiibkocheaaCTwoR
import Derived.Test.YthcakiibkocheaaCKnown
namespace Go.Proofs.Ythcakiibkocheaa
open Go.RowKit

set_option maxHeartbeats 8000000 in
theorem shifts_any (ao : Option Addr) (n cap : Nat) (u : List Nat) (up : Nat) (w : World) (_ : n ≤ maxLen) (hup : up ≤ 65535) (hs : Ik w .u8 ao n u) (hl : ∀ x ∈ u, x ≤ 255) :
    Calls Try.prog 7 #[.slice ao n cap, .int .u16 up] w fun e w' => e = .returned (.bool true) ∧ Below w.heap.size w w' := by
  by_cases h2 : n < 2
  · have d2 : decide ((n : Int) < 2) = true := decide_eq_true (by omega)
    clear hs hl hup
    go_enter Try.func7, Try.ntmps7
    go_wp2_with fail
    refine (known_any _).mono ?_
    rintro e w1 ⟨rfl, hb1⟩
    go_wp2
    go_ret
    exact ⟨rfl, hb1⟩
  · have d2 : decide ((n : Int) < 2) = false := decide_eq_false (by omega)
    by_cases h60 : 60 < n
    · have d6 : decide ((60 : Int) < (n : Int)) = true := decide_eq_true (by omega)
      have d6' : decide (60 < n) = true := decide_eq_true h60
      clear hs hl hup
      go_enter Try.func7, Try.ntmps7
      go_wp2_with fail
      refine (known_any _).mono ?_
      rintro e w1 ⟨rfl, hb1⟩
      go_wp2
      go_ret
      exact ⟨rfl, hb1⟩
    · have d6 : decide ((60 : Int) < (n : Int)) = false := decide_eq_false (by omega)
      have d6' : decide (60 < n) = false := decide_eq_false h60
      obtain ⟨b, off, rfl, hcell⟩ := hs.read (by omega)
      have HC : Hid (∀ W, Below w.heap.size w W → ∀ j, j < n → W.cell? ⟨b, off + j, none⟩ = some (.int .u8 ((u.getD j 0 : Nat) : Int))) := hcell
      have HL : Hid (∀ x ∈ u, x ≤ 255) := hl
      have H60 : Hid (2 ≤ n ∧ n ≤ 60) := ⟨by omega, by omega⟩
      have HUp : Hid (wrap64 (up : Int) = (up : Int)) := wNat up (by omega)
      clear hs hl hcell h2
      go_enter Try.func7, Try.ntmps7
      go_wp2_with fail
      refine (known_any _).mono ?_
      rintro e w0 ⟨rfl, hb0⟩
      go_wp2_with fail
      go_loopw [8, 7, 5, 6] (fun t s a c wr => ∃ (j : Nat) (x y : Value), Hid (j ≤ n) ∧ t = .int .i64 j ∧ s = .int .i64 (psum u j : Nat) ∧ a = x ∧ c = y ∧ Own wr w.heap.size x (smL 1 0 u j) ∧ Own wr w.heap.size y (smL 3 up u j) ∧ Dj x y ∧ Below w.heap.size w wr) (fun t _ _ _ _ => n - (intOf t).toNat)
      case atStart => exact ⟨0, _, _, by show 0 ≤ n; omega, rfl, rfl, rfl, rfl, Own.nil _ _, Own.nil _ _, (fun k h => by cases h), hb0⟩
      case round =>
        obtain ⟨j, x, y, HJ, rfl, rfl, hx, hy, ox, oy, hd, hb⟩ := hrel
        subst hx hy
        by_cases hlt : j < n
        · have dj : decide ((j : Int) < (n : Int)) = true := decide_eq_true (by omega)
          have hj60 : j < 60 := by have := H60.out; omega
          have hcj := HC.out _ hb j hlt
          have hlx' : (smL 1 0 u j).length ≤ 1000 := by rw [smL_len]; omega
          have hly' : (smL 3 up u j).length ≤ 1000 := by rw [smL_len]; omega
          have HX : Hid (smL 1 0 u (j + 1) = smL 1 0 u j ++ [(((j : Nat) : Int), false, ((psum u (j + 1) : Nat) : Int) * 1000000)]) := by
            show _ = _
            rw [smL_snoc, Nat.mul_one, Nat.add_zero]
          have HY : Hid (smL 3 up u (j + 1) = smL 3 up u j ++ [(((j * 3 : Nat) : Int), false, ((psum u (j + 1) + up : Nat) : Int) * 1000000)]) := smL_snoc 3 up u j
          have hp0 := psum_le HL.out j
          have hp0' : j * 255 ≤ 60 * 255 := Nat.mul_le_mul_right _ (by omega)
          have hv := getD_le HL.out j
          have HP1 : Hid (psum u (j + 1) = psum u j + u.getD j 0) := rfl
          generalize smL 1 0 u j = LX at *
          generalize smL 3 up u j = LY at *
          obtain ⟨q1, hq1⟩ : ∃ q, psum u (j + 1) = q := ⟨_, rfl⟩
          have HQ : Hid (psum u (j + 1) = q1) := hq1
          rw [hq1] at HX HY HP1
          clear hq1
          obtain ⟨r, hr⟩ : ∃ r, q1 + up = r := ⟨_, rfl⟩
          rw [hr] at HY
          generalize psum u j = q0 at *
          generalize u.getD j 0 = v at *
          have hq : q1 = q0 + v := HP1.out
          have hq0 : q0 ≤ 15300 := by omega
          clear hp0 hp0'
          have hv2 : v ≤ 1000000000 := by omega
          have hq1 : q1 ≤ 100000 := by omega
          have hq2 : r ≤ 100000 := by omega
          have hmx : n - (j + 1) < n - j := by omega
          have hj1 : j + 1 ≤ n := hlt
          have hE2 : (q0 : Int) + v = (q1 : Int) := by omega
          have hE4 : (j : Int) * 3 = ((j * 3 : Nat) : Int) := by omega
          have E2 : Hid ((q0 : Int) + v = (q1 : Int)) := hE2
          have E4 : Hid ((j : Int) * 3 = ((j * 3 : Nat) : Int)) := hE4
          clear hE2 hE4
          have hq3 : q1 ≤ 1000000000 := by omega
          have hq4 : r ≤ 1000000000 := by omega
          have hj3 : j ≤ 1000 := by omega
          have e0 := HUp.out
          have e1 := wNat v hv2
          have e2 := wAdd q0 v q1 hq hq3
          have e3 := wAdd q1 up r hr.symm hq4
          have e4 := wMul3 j hj3
          clear hq3 hq4 hj3
          have hA := fun W => kn_of (q1 : Int) ((q1 : Int) * 1000000) (fOf_nat q1 hq1) (r64_nat q1 hq1) W
          have hB := fun W => kn_of (r : Int) ((r : Int) * 1000000) (fOf_nat r hq2) (r64_nat r hq2) W
          clear hv2 hq1 hq2 hr
          clear hq0 hv hq HP1
          go_wp2_with fail
          refine (hA _).mono ?_
          rintro e w1 ⟨rfl, hb1⟩
          have hx1 := BoxS.new w1 ((j : Int), false, (q1 : Int) * 1000000)
          have hb2 := bal (Below.chain hb hb1) (.cells #[.int .i64 (j : Int), .bool false, .int .i64 ((q1 : Int) * 1000000)] 32)
          have ox1 := (ox.later hb1).later (bal (Below.refl _ _) (.cells #[.int .i64 (j : Int), .bool false, .int .i64 ((q1 : Int) * 1000000)] 32))
          have oy1 := (oy.later hb1).later (bal (Below.refl _ _) (.cells #[.int .i64 (j : Int), .bool false, .int .i64 ((q1 : Int) * 1000000)] 32))
          go_wp2_with (at_builtin; go_must (refine wpList_append_where _ rfl _ _ rfl rfl w.heap.size _ LX ((j : Int), false, (q1 : Int) * 1000000) rfl ox1 w1.heap.size rfl hx1 hlx' hb2.size ?_))
          intro x' w2 ox2 hg2 hf2
          have hb3 := hb2.grown hg2 hb2.size (fun k hk => (World.ownsRow.lt ox1 k hk).1)
          have oy2 := oy1.keptO hg2 hd
          have hd2 := hd.next (va' := x') oy1 (by simpa using hf2)
          clear hx1 hb2 ox1 oy1 hd ox oy hb1 hg2 hf2 hcj
          go_wp2_with fail
          refine (hB _).mono ?_
          rintro e w3 ⟨rfl, hb4⟩
          have hx3 := BoxS.new w3 (((j * 3 : Nat) : Int), false, (r : Int) * 1000000)
          have hb5 := bal (Below.chain hb3 hb4) (.cells #[.int .i64 ((j * 3 : Nat) : Int), .bool false, .int .i64 ((r : Int) * 1000000)] 32)
          have ox3 := (ox2.later hb4).later (bal (Below.refl _ _) (.cells #[.int .i64 ((j * 3 : Nat) : Int), .bool false, .int .i64 ((r : Int) * 1000000)] 32))
          have oy3 := (oy2.later hb4).later (bal (Below.refl _ _) (.cells #[.int .i64 ((j * 3 : Nat) : Int), .bool false, .int .i64 ((r : Int) * 1000000)] 32))
          go_wp2_with (at_builtin; go_must (refine wpList_append_where _ rfl _ _ rfl rfl w.heap.size _ LY (((j * 3 : Nat) : Int), false, (r : Int) * 1000000) rfl oy3 w3.heap.size rfl hx3 hly' hb5.size ?_))
          intro y' w4 oy4 hg4 hf4
          have hb6 := hb5.grown hg4 hb5.size (fun k hk => (World.ownsRow.lt oy3 k hk).1)
          have ox4 := ox3.keptO hg4 hd2.symm
          have hd4 := hd2.symm.next (va' := y') ox3 (by simpa using hf4)
          clear hx3 hb5 ox3 oy3 ox2 oy2 hb4 hg4 hf4 hb3
          go_wp2
          go_roundw
          case rel => exact ⟨j + 1, x', y', hj1, by go_num, by rw [HQ.out], rfl, rfl, by rw [HX.out]; exact ox4, by rw [HY.out]; exact oy4, hd4.symm, hb6⟩
          case measure => simp [intOf]; omega
        · have dj : decide ((j : Int) < (n : Int)) = false := decide_eq_false (by omega)
          have dj' : decide (j < n) = false := decide_eq_false hlt
          obtain rfl : j = n := by have := HJ.out; omega
          obtain ⟨p, hp⟩ : ∃ p, p + 1 = j := ⟨j - 1, by have := H60.out; omega⟩
          have hj60 := H60.out.2
          have hrx := smL_r64 1 0 HL.out (by omega) hj60
          have hry := smL_r64 3 up HL.out hup hj60
          have hix := smL_inc 1 0 HL.out (by omega) (p := p) (by omega)
          have hiy := smL_inc 3 up HL.out hup (p := p) (by omega)
          rw [hp] at hix hiy
          have hlx := smL_len 1 0 u j
          have hly := smL_len 3 up u j
          obtain ⟨ax, cx, rfl, mx⟩ := ox.slice
          rw [hlx] at mx ⊢
          obtain ⟨ay, cy, rfl, my⟩ := oy.slice
          rw [hly] at my ⊢
          have hfx := fun W hW => of_row ax j cx (smL 1 0 u j) W (by omega) hW hrx
          have hfy := fun W hW => of_row ay j cy (smL 3 up u j) W (by omega) hW hry
          have h2j : ¬ j < 2 := by have := H60.out; omega
          rw [if_neg h2j, hix] at hfx
          rw [if_neg h2j, hiy] at hfy
          generalize smL 1 0 u j = LX at *
          generalize smL 3 up u j = LY at *
          generalize ((psum u j : Nat) : Int) * 1000000 - ((psum u 1 : Nat) : Int) * 1000000 = z at *
          have hfx' : ∀ W, Ms W ax j LX → Calls Try.prog 20 #[.slice ax j cx] W fun e w' => e = .returned (.tuple #[.agg #[.bool false, .int .i64 z], .bool true]) ∧ Below W.heap.size W w' := hfx
          have hfy' : ∀ W, Ms W ay j LY → Calls Try.prog 20 #[.slice ay j cy] W fun e w' => e = .returned (.tuple #[.agg #[.bool false, .int .i64 z], .bool true]) ∧ Below W.heap.size W w' := hfy
          clear hrx hry hix hiy hlx hly ox oy hup hp HL HC H60 hfx hfy h2j hj60 hlt d2 d6 d6' h60
          go_wp2_with fail
          refine (hfx' _ mx).mono ?_
          rintro e w1 ⟨rfl, hb1⟩
          have hx1 := Box.new w1 false z
          have hb2 := bal (Below.chain hb hb1) (.cells #[.bool false, .int .i64 z] 28)
          have my1 := (my.later hb1).later (bal (Below.refl _ _) (.cells #[.bool false, .int .i64 z] 28))
          go_wp2_with fail
          generalize w1.heap.size = B1 at *
          generalize w1.alloc (.cells #[.bool false, .int .i64 z] 28) = w2 at *
          refine (hfy' _ my1).mono ?_
          rintro e w3 ⟨rfl, hb3⟩
          have hx3 := (hx1.later hb3).later (bal (Below.refl _ _) (.cells #[.bool false, .int .i64 z] 28))
          have hb4 := bal (Below.chain hb2 hb3) (.cells #[.bool false, .int .i64 z] 28)
          obtain ⟨c0, c1, _, _⟩ := id hx3
          go_wp2
          go_ret
          exact ⟨rfl, hb4⟩
end Go.Proofs.Ythcakiibkocheaa
