/- The document's own Sum: for every slice of at most a hundred numbers. -/
import Derived.Test.YthcakiibkocheaaRefIs
namespace Go.Proofs.Ythcakiibkocheaa
open Go.RowKit

theorem and_low (m : Int) : bits BinOp.and IntKind.i64 m 4294967295 = m % 4294967296 := by
  have e : (4294967295 : Nat) = 2 ^ 32 - 1 := by decide
  have h : (BitVec.ofInt IntKind.i64.bits m &&& BitVec.ofInt IntKind.i64.bits 4294967295).toNat = (m % 18446744073709551616).toNat % 4294967296 := by
    rw [BitVec.toNat_and, BitVec.toNat_ofInt, BitVec.toNat_ofInt]
    show (m % 18446744073709551616).toNat &&& 4294967295 = _
    rw [e, Nat.and_two_pow_sub_one_eq_mod]
  show IntKind.i64.wrap _ = _
  rw [h, IntKind.wrap_i64]
  omega
theorem or_low (h lo : Int) (h0 : -2147483648 ≤ h) (h1 : h < 2147483648) (l0 : 0 ≤ lo) (l1 : lo < 4294967296) : bits BinOp.or IntKind.i64 (h * 4294967296) lo = h * 4294967296 + lo := by
  have e : (BitVec.ofInt IntKind.i64.bits (h * 4294967296) ||| BitVec.ofInt IntKind.i64.bits lo).toNat = 4294967296 * (h % 4294967296).toNat + lo.toNat := by
    rw [BitVec.toNat_or, BitVec.toNat_ofInt, BitVec.toNat_ofInt]
    show (h * 4294967296 % 18446744073709551616).toNat ||| (lo % 18446744073709551616).toNat = _
    have e1 : (h * 4294967296 % 18446744073709551616).toNat = 2 ^ 32 * (h % 4294967296).toNat := by
      show _ = 4294967296 * _
      omega
    have e2 : (lo % 18446744073709551616).toNat = lo.toNat := by omega
    have hl : lo.toNat < 2 ^ 32 := by
      show _ < 4294967296
      omega
    rw [e1, e2, ← Nat.two_pow_add_eq_or_of_lt hl]
  show IntKind.i64.wrap _ = _
  rw [e, IntKind.wrap_i64]
  omega

theorem or_least (lo : Int) (l0 : 0 ≤ lo) (l1 : lo < 4294967296) : bits BinOp.or IntKind.i64 (-9223372036854775808) lo = -9223372036854775808 + lo := by
  have h := or_low (-2147483648) lo (by omega) (by omega) l0 l1
  have e : (-2147483648 : Int) * 4294967296 = -9223372036854775808 := by omega
  rw [e] at h
  exact h

set_option maxHeartbeats 1000000 in
theorem rsum_any (ao : Option Addr) (n cap : Nat) (l : List (Bool × Int)) (w : World) (hn : n ≤ 100) (hs : Ns w ao n l) (hl : ∀ x ∈ l, -9223372036854775808 ≤ x.2 ∧ x.2 ≤ 9223372036854775807) :
    Calls Try.prog 29 #[.slice ao n cap] w fun e w' => e = .returned (.agg #[.bool (ov (fSum (cnts l))), .int .i64 (nn (fSum (cnts l)))]) ∧ Below w.heap.size w w' := by
  have hx := Box.new w false 0
  have hb0 : Below w.heap.size w (w.alloc (.cells #[.bool false, .int .i64 0] 28)) := bal (Below.refl _ _) _
  go_enter Try.func29, Try.ntmps29
  go_wp2_with fail
  go_loopw [3, 4, 5] (fun h o i wr => ∃ (j : Nat) (s hi lo : Int), j ≤ n ∧ i = .int .i64 j ∧ h = .int .i64 hi ∧ o = .int .i64 lo ∧ s = hi * 4294967296 + lo ∧ 0 ≤ lo ∧ lo < 4294967296 ∧ sumL (cnts (l.take j)) = some s ∧ Box wr w.heap.size false 0 ∧ Below w.heap.size w wr) (fun _ _ i _ => n - (intOf i).toNat)
  case atStart => exact ⟨0, 0, 0, 0, by omega, rfl, rfl, rfl, by omega, by omega, by omega, rfl, hx, hb0⟩
  case round =>
    obtain ⟨j, s, hi, lo, hj, rfl, rfl, rfl, hs1, hlo0, hlo1, hsum, hbx, hbw⟩ := hrel
    have hrg : -(j * 9223372036854775808 : Int) ≤ s ∧ s ≤ j * 9223372036854775808 := by
      have := sumL_range (l.take j) (fun x hx => hl x (List.mem_of_mem_take hx)) s hsum
      rw [List.length_take, hs.1, Nat.min_eq_left hj] at this
      exact this
    have hhi : -214748364800 ≤ hi ∧ hi ≤ 214748364800 := by omega
    have HS1 : Hid _ := hs1
    clear hs1
    by_cases hlt : j < n
    · obtain ⟨b, off, rfl, hcell⟩ := hs.2 (by omega)
      obtain ⟨k0, k1⟩ := hcell j hlt
      have k0' := (hbw.cell (World.block_lt_of_cell? _ _ k0)).trans k0
      have k1' := (hbw.cell (World.block_lt_of_cell? _ _ k1)).trans k1
      have hlen : j < l.length := by rw [hs.1]; exact hlt
      have hm := hl _ (getD_mem hlen)
      rcases cnt_ways (o := (l.getD j (false, 0)).1) hm.1 with ⟨ho, hr⟩ | ⟨ho, hi0, hr⟩ | ⟨ho, hi0, hr⟩
      · have hsn : Hid _ := sumL_none hlen hr
        generalize (l.getD j (false, 0)) = x at *
        obtain ⟨o, m⟩ := x
        have ho' : o = true := ho
        subst ho'
        clear k0 k1 hcell
        go_wp2_with fail
        refine (ovf_any _).mono ?_
        rintro e w2 ⟨rfl, hb4⟩
        obtain ⟨d0, d1, g0, g1⟩ := hbx.later hb4
        go_wp2
        refine bodyPost_ret (v := .agg #[.bool true, .int .i64 0]) (by simp [results, Try.results29, go_sem, d0, d1]) rfl ⟨?_, put2 (Below.chain hbw hb4) (by omega) _ _⟩
        unfold fSum
        rw [hsn.out]
        rfl
      · have hsn : Hid _ := sumL_none hlen hr
        generalize (l.getD j (false, 0)) = x at *
        obtain ⟨o, m⟩ := x
        have ho' : o = false := ho
        subst ho'
        clear k0 k1 hcell
        go_wp2_with fail
        refine (ris_all _ _ _ hm.1).mono ?_
        rintro e w1 ⟨rfl, hb2⟩
        rw [hi0]
        go_wp2_with fail
        refine (ovf_any _).mono ?_
        rintro e w2 ⟨rfl, hb4⟩
        obtain ⟨d0, d1, g0, g1⟩ := (hbx.later hb2).later hb4
        go_wp2
        refine bodyPost_ret (v := .agg #[.bool true, .int .i64 0]) (by simp [results, Try.results29, go_sem, d0, d1]) rfl ⟨?_, put2 (Below.chain (Below.chain hbw hb2) hb4) (by omega) _ _⟩
        unfold fSum
        rw [hsn.out]
        rfl
      · have hsn : Hid _ := sumL_snoc hlen hsum hr
        generalize (l.getD j (false, 0)) = x at *
        obtain ⟨o, m⟩ := x
        have ho' : o = false := ho
        subst ho'
        clear k0 k1 hcell
        go_wp2_with fail
        refine (ris_all _ _ _ hm.1).mono ?_
        rintro e w1 ⟨rfl, hb2⟩
        rw [hi0]
        have k2 := (hb2.cell (World.block_lt_of_cell? _ _ k1')).trans k1'
        go_wp2_with fail
        rw [and_low, and_low]
        have hm' : -9223372036854775808 ≤ m ∧ m ≤ 9223372036854775807 := hm
        have e1 : wrap64 (lo + m % 4294967296) = lo + m % 4294967296 := by unfold wrap64; omega
        have e2 : wrap64 (hi + m / 4294967296 + (lo + m % 4294967296) / 4294967296) = hi + m / 4294967296 + (lo + m % 4294967296) / 4294967296 := by unfold wrap64; omega
        rw [e1, e2]
        go_roundw
        case rel =>
          have hs2 := HS1.out
          exact ⟨j + 1, s + m, _, _, by omega, by go_num, rfl, rfl, by omega, by omega, by omega, hsn.out, hbx.later hb2, Below.chain hbw hb2⟩
        case measure => simp [intOf]; omega
    · obtain rfl : j = n := by omega
      have hsl : sumL (cnts l) = some s := by rw [← hsum, List.take_of_length_le (by rw [hs.1]; omega)]
      have hres : fSum (cnts l) = norm s := by unfold fSum; rw [hsl]
      have Hres : Hid _ := hres
      clear hres hsl hsum
      by_cases c1 : hi < -2147483648
      · go_wp2_with fail
        refine (ovf_any _).mono ?_
        rintro e w2 ⟨rfl, hb4⟩
        obtain ⟨d0, d1, g0, g1⟩ := hbx.later hb4
        go_wp2
        exact bodyPost_ret (v := .agg #[.bool true, .int .i64 0]) (by simp [results, Try.results29, go_sem, d0, d1]) rfl ⟨by rw [Hres.out, norm_out (by have := HS1.out; omega)]; rfl, put2 (Below.chain hbw hb4) (by omega) _ _⟩
      · by_cases c2 : 2147483648 ≤ hi
        · go_wp2_with fail
          refine (ovf_any _).mono ?_
          rintro e w2 ⟨rfl, hb4⟩
          obtain ⟨d0, d1, g0, g1⟩ := hbx.later hb4
          go_wp2
          exact bodyPost_ret (v := .agg #[.bool true, .int .i64 0]) (by simp [results, Try.results29, go_sem, d0, d1]) rfl ⟨by rw [Hres.out, norm_out (by have := HS1.out; omega)]; rfl, put2 (Below.chain hbw hb4) (by omega) _ _⟩
        · by_cases c3 : hi = -2147483648
          · subst c3
            by_cases c4 : lo = 0
            · subst c4
              go_wp2_with fail
              refine (ovf_any _).mono ?_
              rintro e w2 ⟨rfl, hb4⟩
              obtain ⟨d0, d1, g0, g1⟩ := hbx.later hb4
              go_wp2
              have hs3 : norm s = none := by
                have := HS1.out
                unfold norm
                rw [if_neg (by omega)]
              exact bodyPost_ret (v := .agg #[.bool true, .int .i64 0]) (by simp [results, Try.results29, go_sem, d0, d1]) rfl ⟨by rw [Hres.out, hs3]; rfl, put2 (Below.chain hbw hb4) (by omega) _ _⟩
            · have c4' : (lo == 0) = false := by simp [c4]
              obtain ⟨d0, d1, g0, g1⟩ := id hbx
              go_wp2_with fail
              rw [or_least lo hlo0 hlo1]
              have hs3 : norm s = some (-9223372036854775808 + lo) := by
                have := HS1.out
                unfold norm
                rw [if_pos (by omega)]
                exact congrArg some (by omega)
              obtain ⟨p0, p1, _, _⟩ := hbx.put (p := false) (m := -9223372036854775808 + lo)
              exact bodyPost_ret (v := .agg #[.bool false, .int .i64 (-9223372036854775808 + lo)]) (by simp [results, Try.results29, go_sem, p0, p1]) rfl ⟨by rw [Hres.out, hs3]; rfl, put2 hbw (by omega) _ _⟩
          · have c3' : (hi == -2147483648) = false := by simp [c3]
            obtain ⟨d0, d1, g0, g1⟩ := id hbx
            go_wp2_with fail
            rw [or_low hi lo (by omega) (by omega) hlo0 hlo1]
            have hs3 : norm s = some (hi * 4294967296 + lo) := by
              have := HS1.out
              unfold norm
              rw [if_pos (by omega)]
              exact congrArg some (by omega)
            obtain ⟨p0, p1, _, _⟩ := hbx.put (p := false) (m := hi * 4294967296 + lo)
            exact bodyPost_ret (v := .agg #[.bool false, .int .i64 (hi * 4294967296 + lo)]) (by simp [results, Try.results29, go_sem, p0, p1]) rfl ⟨by rw [Hres.out, hs3]; rfl, put2 hbw (by omega) _ _⟩
end Go.Proofs.Ythcakiibkocheaa
