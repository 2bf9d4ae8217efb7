
/- Sum, Add, Sub: each for every argument (a slice of at most a thousand numbers). -/
import Derived.Test.YthcakiibkocheaaCnt
import Derived.Laws.Externs
namespace Go.Proofs.Ythcakiibkocheaa
open Go.RowKit

theorem add64 (x y c : Int) (hx : 0 ≤ x) (hy : 0 ≤ y) (hc0 : 0 ≤ c) (hc : c ≤ 1) (w : World) : (callFunc 49 #[.int .u64 x, .int .u64 y, .int .u64 c]).run Try.prog w =
    .ok (.value (.tuple #[.int .u64 ((x + y + c) % 18446744073709551616), .int .u64 ((x + y + c) / 18446744073709551616)])) w := by
  rw [run_callFunc_extern Try.func49 (by kernel_rfl) (by kernel_rfl) (by kernel_rfl) (e := add64Entry) (by kernel_rfl), run_add64 x y c hx hy hc0 hc]
  rfl
theorem add_low (s a : Int) (w : World) : (callFunc 49 #[.int .u64 (lo s), .int .u64 (IntKind.u64.wrap a), .int .u64 0]).run Try.prog w =
    .ok (.value (.tuple #[.int .u64 (lo (s + a)), .int .u64 (cy s a)])) w := by
  rw [IntKind.wrap_u64, add64 _ _ _ (lo_range s).1 (by omega) (by omega) (by omega), ← lo_add, Int.add_zero]
  rfl
theorem add_high (s a : Int) (h0 : -9223372036854775808 ≤ a) (h1 : a ≤ 9223372036854775807) (w : World) : (callFunc 49 #[.int .u64 (hi s), .int .u64 (sb a), .int .u64 (cy s a)]).run Try.prog w =
    .ok (.value (.tuple #[.int .u64 (hi (s + a)), .int .u64 ((hi s + sb a + cy s a) / 18446744073709551616)])) w := by
  rw [add64 _ _ _ (hi_range s).1 (sb_range a).1 (cy_range s a).1 (cy_range s a).2, hi_add s a h0 h1]
theorem signBits_sb (n : Int) (w : World) : Calls Try.prog 50 #[.int .i64 n] w fun e w' => e = .returned (.int .u64 (sb n)) ∧ w = w' := signBits_any n w

/-- A slice of numbers that reads as l. -/
def Ns (w : World) (ao : Option Addr) (n : Nat) (l : List (Bool × Int)) : Prop :=
  l.length = n ∧ (0 < n → ∃ b off, ao = some ⟨b, off, none⟩ ∧ ∀ j, j < n → w.cell? ⟨b, off + j * 2, none⟩ = some (.bool (l.getD j (false, 0)).1) ∧ w.cell? ⟨b, off + j * 2 + 1, none⟩ = some (.int .i64 (l.getD j (false, 0)).2))
theorem counted_some {o : Bool} {n a : Int} (hr : cnt o n = some a) (w : World) (h0 : -9223372036854775808 ≤ n) : Calls Try.prog 39 #[.agg #[.bool o, .int .i64 n]] w fun e w' => e = .returned (.agg #[.bool false, .int .i64 a]) ∧ Below w.heap.size w w' := by
  have h := counted_any o n w h0
  rw [hr] at h
  exact h
theorem counted_none {o : Bool} {n : Int} (hr : cnt o n = none) (w : World) (h0 : -9223372036854775808 ≤ n) : Calls Try.prog 39 #[.agg #[.bool o, .int .i64 n]] w fun e w' => e = .returned (.agg #[.bool true, .int .i64 0]) ∧ Below w.heap.size w w' := by
  have h := counted_any o n w h0
  rw [hr] at h
  exact h
theorem getD_mem {l : List (Bool × Int)} {j : Nat} (h : j < l.length) : l.getD j (false, 0) ∈ l := by
  rw [List.getD_eq_getElem?_getD, List.getElem?_eq_getElem h]
  exact List.getElem_mem h

set_option maxHeartbeats 1000000 in
theorem sum_any (ao : Option Addr) (n cap : Nat) (l : List (Bool × Int)) (w : World) (hn : n ≤ 1000) (hs : Ns w ao n l) (hl : ∀ x ∈ l, -9223372036854775808 ≤ x.2 ∧ x.2 ≤ 9223372036854775807) :
    Calls Try.prog 36 #[.slice ao n cap] w fun e w' => e = .returned (.agg #[.bool (ov (fSum (cnts l))), .int .i64 (nn (fSum (cnts l)))]) ∧ Below w.heap.size w w' := by
  have hx := Box.new w false 0
  have hb0 : Below w.heap.size w (w.alloc (.cells #[.bool false, .int .i64 0] 28)) := bal (Below.refl _ _) _
  go_enter Try.func36, Try.ntmps36
  go_wp2_with fail
  go_loopw [3, 4, 11] (fun h o i wr => ∃ (j : Nat) (s : Int), j ≤ n ∧ i = .int .i64 j ∧ h = .int .u64 (hi s) ∧ o = .int .u64 (lo s) ∧ sumL (cnts (l.take j)) = some s ∧ Box wr w.heap.size false 0 ∧ Below w.heap.size w wr) (fun _ _ i _ => n - (intOf i).toNat)
  case atStart => exact ⟨0, 0, by omega, rfl, rfl, rfl, rfl, hx, hb0⟩
  case round =>
    obtain ⟨j, s, hj, rfl, rfl, rfl, hsum, hbx, hbw⟩ := hrel
    by_cases hlt : j < n
    · obtain ⟨b, off, rfl, hcell⟩ := hs.2 (by omega)
      obtain ⟨k0, k1⟩ := hcell j hlt
      have k0' := (hbw.cell (World.block_lt_of_cell? _ _ k0)).trans k0
      have k1' := (hbw.cell (World.block_lt_of_cell? _ _ k1)).trans k1
      have hlen : j < l.length := by rw [hs.1]; exact hlt
      have hm := hl _ (getD_mem hlen)
      cases hr : cnt (l.getD j (false, 0)).1 (l.getD j (false, 0)).2 with
      | none =>
        have hsn : Hid _ := sumL_none hlen hr
        generalize (l.getD j (false, 0)) = x at *
        obtain ⟨o, m⟩ := x
        have hy := Box.new wr o m
        have hb1 : Below w.heap.size w (wr.alloc (.cells #[.bool o, .int .i64 m] 28)) := bal hbw _
        have hbx1 := hbx.later (bal (Below.refl _ _) (.cells #[.bool o, .int .i64 m] 28))
        have hlt1 := hbx.lt
        clear k0 k1 hcell
        go_wp2_with fail
        refine (counted_none hr _ hm.1).mono ?_
        rintro e w1 ⟨rfl, hb2⟩
        have hy1 := hy.later hb2
        have hbx2 := hbx1.later hb2
        have hb3 := put2 (Below.chain hb1 hb2) (b := wr.heap.size) hbw.size true 0
        have hbx3 := hbx2.put_other (a := wr.heap.size) (p := true) (m := 0) (by omega)
        obtain ⟨p0, p1, _, _⟩ := hy1.put (p := true) (m := 0)
        obtain ⟨c0, c1, f0, f1⟩ := hy1
        go_wp2_with fail
        refine (overflow_any _).mono ?_
        rintro e w2 ⟨rfl, hb4⟩
        obtain ⟨d0, d1, g0, g1⟩ := hbx3.later hb4
        go_wp2
        refine bodyPost_ret (v := .agg #[.bool true, .int .i64 0]) (by simp [results, Try.results36, go_sem, d0, d1]) rfl ⟨?_, put2 (Below.chain hb3 hb4) (by omega) _ _⟩
        unfold fSum
        rw [hsn.out]
        rfl
      | some a =>
        have hsn : Hid _ := sumL_snoc hlen hsum hr
        have hva : V (cnt (l.getD j (false, 0)).1 (l.getD j (false, 0)).2) := V.cnt hm.1 hm.2
        rw [hr] at hva
        have ha1 : -9223372036854775807 ≤ a := hva.1
        have ha2 : a ≤ 9223372036854775807 := hva.2
        generalize (l.getD j (false, 0)) = x at *
        obtain ⟨o, m⟩ := x
        have hy := Box.new wr o m
        have hb1 : Below w.heap.size w (wr.alloc (.cells #[.bool o, .int .i64 m] 28)) := bal hbw _
        have hbx1 := hbx.later (bal (Below.refl _ _) (.cells #[.bool o, .int .i64 m] 28))
        have hlt1 := hbx.lt
        clear k0 k1 hcell
        go_wp2_with fail
        refine (counted_some hr _ hm.1).mono ?_
        rintro e w1 ⟨rfl, hb2⟩
        have hy1 := hy.later hb2
        have hbx2 := hbx1.later hb2
        have hb3 := put2 (Below.chain hb1 hb2) (b := wr.heap.size) hbw.size false a
        have hbx3 := hbx2.put_other (a := wr.heap.size) (p := false) (m := a) (by omega)
        obtain ⟨p0, p1, _, _⟩ := hy1.put (p := false) (m := a)
        obtain ⟨c0, c1, f0, f1⟩ := hy1
        clear hr hva
        have ha3 : -9223372036854775808 ≤ a := by omega
        go_wp2_with (first | simp only [add_low s a] | simp only [add_high s a ha3 ha2] | (go_at_call 50; refine (signBits_sb _ _).mono ?_; rintro e w2 ⟨rfl, rfl⟩))
        go_roundw
        case rel => exact ⟨j + 1, s + a, by omega, by go_num, rfl, rfl, hsn.out, hbx3, hb3⟩
        case measure => simp [intOf]; omega
    · obtain rfl : j = n := by omega
      have hrg := sumL_range l hl s (by rw [← hsum, List.take_of_length_le (by rw [hs.1]; omega)])
      have hsl : sumL (cnts l) = some s := by rw [← hsum, List.take_of_length_le (by rw [hs.1]; omega)]
      rw [hs.1] at hrg
      have hlr := lo_range s
      have hw : wrap64 (lo s) = (if lo s < 9223372036854775808 then lo s else lo s - 18446744073709551616) := by unfold wrap64; split <;> omega
      have hf := hi_fits s (by omega) (by omega) _ hw
      have hres : fSum (cnts l) = norm s := by unfold fSum; rw [hsl]
      have Hres : Hid _ := hres
      clear hres hsl hsum
      have hwr : -9223372036854775808 ≤ wrap64 (lo s) ∧ wrap64 (lo s) ≤ 9223372036854775807 := by unfold wrap64; omega
      clear hw
      rcases hf with ⟨f1, f2, f3, f4⟩ | ⟨f1, f2⟩
      · have hd : decide (hi s = sb (wrap64 (lo s))) = true := decide_eq_true f1
        go_wp2_with (go_at_call 50; refine (signBits_sb _ _).mono ?_; rintro e w2 ⟨rfl, rfl⟩)
        refine (counted_any _ _ _ f3).mono ?_
        rintro e w1 ⟨rfl, hb1⟩
        rw [cnt_norm f3 f4]
        obtain ⟨d0, d1, g0, g1⟩ := hbx.later hb1
        go_wp2
        exact bodyPost_ret (v := .agg #[.bool (ov (norm s)), .int .i64 (nn (norm s))]) (by simp [results, Try.results36, go_sem, d0, d1]) rfl ⟨by rw [Hres.out], put2 (Below.chain hbw hb1) (by omega) _ _⟩
      · have hd : decide (hi s = sb (wrap64 (lo s))) = false := decide_eq_false f1
        go_wp2_with (go_at_call 50; refine (signBits_sb _ _).mono ?_; rintro e w2 ⟨rfl, rfl⟩)
        refine (overflow_any _).mono ?_
        rintro e w1 ⟨rfl, hb1⟩
        obtain ⟨d0, d1, g0, g1⟩ := hbx.later hb1
        go_wp2
        exact bodyPost_ret (v := .agg #[.bool true, .int .i64 0]) (by simp [results, Try.results36, go_sem, d0, d1]) rfl ⟨by rw [Hres.out, norm_out f2]; rfl, put2 (Below.chain hbw hb1) (by omega) _ _⟩

/-- Two numbers in new memory. -/
theorem Ns.two (w : World) (o p : Bool) (n m : Int) : Ns (w.alloc (.cells #[.bool o, .int .i64 n, .bool p, .int .i64 m] 28)) (some ⟨w.heap.size, 0, none⟩) 2 [(o, n), (p, m)] := by
  refine ⟨rfl, fun _ => ⟨_, 0, rfl, fun j hj => ?_⟩⟩
  have : j = 0 ∨ j = 1 := by omega
  rcases this with rfl | rfl <;> constructor <;> simp [go_sem]
theorem Ns.three (w : World) (o p q : Bool) (n m k : Int) : Ns (w.alloc (.cells #[.bool o, .int .i64 n, .bool p, .int .i64 m, .bool q, .int .i64 k] 28)) (some ⟨w.heap.size, 0, none⟩) 3 [(o, n), (p, m), (q, k)] := by
  refine ⟨rfl, fun _ => ⟨_, 0, rfl, fun j hj => ?_⟩⟩
  have : j = 0 ∨ j = 1 ∨ j = 2 := by omega
  rcases this with rfl | rfl | rfl <;> constructor <;> simp [go_sem]
theorem Ns.nil (w : World) : Ns w none 0 [] := ⟨rfl, fun h => by omega⟩
/-- What is no number's pair of an int64 is barred. -/
def R64 (n : Int) : Prop := -9223372036854775808 ≤ n ∧ n ≤ 9223372036854775807
theorem sum_two (w : World) (g : Nat) (o p : Bool) (n m : Int) (hn : R64 n) (hm : R64 m) (hg : g = w.heap.size) :
    Calls Try.prog 36 #[.slice (some ⟨g, 0, none⟩) 2 2] (w.alloc (.cells #[.bool o, .int .i64 n, .bool p, .int .i64 m] 28)) fun e w' => e = .returned (.agg #[.bool (ov (fAdd (cnt o n) (cnt p m))), .int .i64 (nn (fAdd (cnt o n) (cnt p m)))]) ∧ Below w.heap.size w w' := by
  subst hg
  refine (sum_any _ 2 2 _ _ (by omega) (Ns.two w o p n m) (by
    intro x hx
    rcases List.mem_cons.1 hx with rfl | hx
    · exact hn
    · rcases List.mem_cons.1 hx with rfl | hx
      · exact hm
      · cases hx)).mono ?_
  rintro e w' ⟨rfl, hb⟩
  have e : fSum (cnts [(o, n), (p, m)]) = fAdd (cnt o n) (cnt p m) := fSum_two _ _
  exact ⟨by rw [e], Below.chain (bal (Below.refl _ _) _) hb⟩

end Go.Proofs.Ythcakiibkocheaa
