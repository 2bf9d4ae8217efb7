/-
  PROVED: for every numbers and every text the law BitsRows of the program at this commit answers true and leaves its input as it was: numbers and texts one behind the other are read one behind the other. No condition.
-/
import Derived.Test.YteajcgodfbaeiaaRows
import Derived.Test.YteajcgodfbaeiaaBack
import Derived.WalkKit
import Derived.ProofKit
import Derived.OpenShut
import Derived.ShutString
import Derived.ChangeOld
import Derived.Below
namespace Go.Proofs.Yteajcgodfbaeiaa.bitsRows
open Go.ChangeShapes Go.WideShapes Go.ChangeAt Go.RowKit
open Go.ChangeMaps (open_string shut_string)
set_option linter.unusedVariables false

theorem own : ownKnob Try.prog.godebug = none := by kernel_rfl
theorem laidOut : laidOutB Try.prog = true := by kernel_rfl

/-- WHAT THE WALK IS TOLD OF A SLICE OF INTEGERS THAT CAME IN: it is nil; or it leads to a row of 'cap' cells, the numbers 'zs' (the first 'len' are its elements, the rest its spare room), each fitting its kind. -/
def IsRow (k : IntKind) (w : World) (a : Option Addr) (len cap : Nat) (zs : List Int) : Prop :=
  (a = none ∧ len = 0 ∧ cap = 0 ∧ zs = []) ∨
  ∃ x, a = some x ∧ len ≤ cap ∧ cap ≤ maxLen ∧ zs.length = cap ∧ (∀ i, i < zs.length → w.cell? (x.add i) = some (.int k (zs.getD i 0))) ∧ ∀ n ∈ zs, (Lit.int k n).wf = true

/-- The numbers that the slice holds, as naturals. -/
theorem IsRow.nums {w : World} {a : Option Addr} {len cap : Nat} {zs : List Int} (h : IsRow .u64 w a len cap zs) :
    len ≤ 9223372036854775807 ∧ ∃ ns : List Nat, ns.length = len ∧ (∀ j, j < len → ns.getD j 0 < 18446744073709551616) ∧ (0 < len → ∃ b off, a = some ⟨b, off, none⟩ ∧ ∀ j, j < len → w.cell? ⟨b, off + j, none⟩ = some (.int .u64 (ns.getD j 0 : Nat))) := by
  rcases h with ⟨rfl, rfl, rfl, rfl⟩ | ⟨x, rfl, hl, hm, hz, hcell, hwz⟩
  · exact ⟨by omega, [], rfl, fun j h => by omega, fun h => by omega⟩
  · unfold maxLen at hm
    have hb : ∀ j, j < len → 0 ≤ zs.getD j 0 ∧ zs.getD j 0 ≤ 18446744073709551615 := fun j hj => by
      have hmem : zs.getD j 0 ∈ zs := by
        rw [List.getD_eq_getElem?_getD, List.getElem?_eq_getElem (show j < zs.length by omega)]
        exact List.getElem_mem _
      simpa [Lit.wf, IntKind.min, IntKind.max, IntKind.signed, IntKind.bits] using hwz _ hmem
    have hn : ∀ j, j < len → ((zs.take len).map Int.toNat).getD j 0 = (zs.getD j 0).toNat := fun j hj => by
      simp [List.getD, List.getElem?_map, hj, List.getElem?_eq_getElem (show j < zs.length by omega)]
    refine ⟨by omega, (zs.take len).map Int.toNat, by simp; omega, fun j hj => by rw [hn j hj]; have := hb j hj; omega, fun hp => ?_⟩
    obtain ⟨b, off, spot⟩ := x
    have hc := hcell 0 (by omega)
    have hspot : spot = none := by simpa [Addr.add] using World.cell?_spot hc
    subst hspot
    refine ⟨b, off, rfl, fun j hj => ?_⟩
    have := hcell j (by omega)
    rw [Addr.add_lit] at this
    rw [this, hn j hj, Int.toNat_of_nonneg (hb j hj).1]

/-- Numbers, each in so many bytes as its place tells, each with the bytes t behind it. -/
def encs (t : List UInt8) : Nat → List Nat → List UInt8
  | _, [] => []
  | i, x :: r => (low x (i % 9) ++ t) ++ encs t (i + 1) r
theorem encs_snoc (t : List UInt8) (x : Nat) : ∀ (l : List Nat) (i : Nat), encs t i (l ++ [x]) = encs t i l ++ (low x ((i + l.length) % 9) ++ t)
  | [], i => by simp [encs]
  | y :: l, i => by
    simp only [List.cons_append, encs, encs_snoc t x l, List.append_assoc, List.length_cons]
    rw [show i + 1 + l.length = i + (l.length + 1) by omega]
theorem encs_take (t : List UInt8) (ns : List Nat) (k : Nat) (h : k < ns.length) : encs t 0 (ns.take (k + 1)) = encs t 0 (ns.take k) ++ (low (ns.getD k 0) (k % 9) ++ t) := by
  have e : ns.take (k + 1) = ns.take k ++ [ns.getD k 0] := by
    rw [List.take_add_one, List.getElem?_eq_getElem h]
    simp [List.getD, h]
  rw [e, encs_snoc]
  simp
  rw [Nat.min_eq_left (by omega)]
theorem encs_drop (t : List UInt8) (ns : List Nat) (k : Nat) (h : k < ns.length) : encs t k (ns.drop k) = (low (ns.getD k 0) (k % 9) ++ t) ++ encs t (k + 1) (ns.drop (k + 1)) := by
  have e : ns.drop k = ns.getD k 0 :: ns.drop (k + 1) := by
    rw [List.drop_eq_getElem_cons h]
    simp [List.getD, h]
  rw [e, encs]
theorem encs_len (t : List UInt8) : ∀ (l : List Nat) (i : Nat), (encs t i l).length ≤ l.length * (9 + t.length)
  | [], i => by simp [encs]
  | y :: l, i => by
    have := encs_len t l (i + 1)
    simp only [encs, List.length_append, low_length, List.length_cons, Nat.succ_mul]
    omega

theorem held_of (k : Nat) : held ((k : Int) % 9) = k % 9 := by unfold held; omega

theorem mask_of {x r : Nat} (hx : x < 18446744073709551616) (hr : r < 8) :
    bits BinOp.and IntKind.u64 (x : Int) (IntKind.u64.wrap (IntKind.u64.wrap (2 ^ (8 * r)) - 1)) = ((x % 256 ^ r : Nat) : Int) := by
  have hp : 2 ^ (8 * r) ≤ 72057594037927936 := by
    have : 2 ^ (8 * r) ≤ 2 ^ 56 := Nat.pow_le_pow_right (by decide) (by omega)
    omega
  have hq : 0 < 2 ^ (8 * r) := Nat.two_pow_pos _
  have e1 : ((2 : Int) ^ (8 * r)) = ((2 ^ (8 * r) : Nat) : Int) := by simp
  rw [e1, ← pow_eq]
  have e2 : IntKind.u64.wrap ((2 ^ (8 * r) : Nat) : Int) = ((2 ^ (8 * r) : Nat) : Int) := by rw [IntKind.wrap_u64]; omega
  have e3 : IntKind.u64.wrap (((2 ^ (8 * r) : Nat) : Int) - 1) = ((2 ^ (8 * r) - 1 : Nat) : Int) := by rw [IntKind.wrap_u64]; omega
  rw [e2, e3, u64_and_nat x _ hx (by omega), Nat.and_two_pow_sub_one_eq_mod]

theorem num_back (ao : Option Addr) (n cap x r : Nat) (bytes : Int) (q : List UInt8) (w : World) (hr : held bytes = r) (hb : Bs w ao n cap (low x r ++ q)) (hB : n ≤ 1000000) :
    Calls Try.prog 10 #[.slice ao n cap, .int .i64 bytes] w fun e w' => ∃ ao m cap, e = .returned (.tuple #[.int .u64 (x % 256 ^ r : Nat), .slice ao m cap, .int .i64 0]) ∧ Bs w' ao m cap q ∧ m ≤ n ∧ Below w.heap.size w w' := by
  have hn := hb.1
  rw [List.length_append, low_length] at hn
  refine (get_ok ao n cap bytes _ w hb hB (by omega)).mono ?_
  rintro e w' ⟨ao', m, c, rfl, hb', hbel⟩
  have e1 : (low x r ++ q).take (held bytes) = low x r := by
    rw [hr, List.take_append_of_le_length (by rw [low_length]; exact Nat.le_refl _), List.take_of_length_le (by rw [low_length]; exact Nat.le_refl _)]
  have e2 : (low x r ++ q).drop (held bytes) = q := by
    rw [hr, List.drop_append_of_le_length (by rw [low_length]; exact Nat.le_refl _), List.drop_of_length_le (by rw [low_length]; exact Nat.le_refl _), List.nil_append]
  rw [e2] at hb'
  rw [e1, num_low]
  have := hb'.1
  exact ⟨_, _, _, rfl, hb', by omega, hbel⟩

set_option maxHeartbeats 4000000 in
theorem walk_in (a : Option Addr) (n cap : Nat) (ns : List Nat) (s : ByteArray) (w : World) (hn : n ≤ 20) (hs : s.size ≤ 100) (hl : ns.length = n) (hx : ∀ j, j < n → ns.getD j 0 < 18446744073709551616)
    (hcell : 0 < n → ∃ b off, a = some ⟨b, off, none⟩ ∧ ∀ j, j < n → w.cell? ⟨b, off + j, none⟩ = some (.int .u64 (ns.getD j 0 : Nat))) :
    Calls Try.prog 7 #[.slice a n cap, .string s] w fun e w' => e = .returned (.bool true) ∧ Below w.heap.size w w' := by
  have hs' : ¬ (100 : Int) < (s.size : Int) := by omega
  have hn' : ¬ (20 : Int) < (n : Int) := by omega
  obtain ⟨t, ht⟩ : ∃ t, low s.size 2 ++ s.data.toList = t := ⟨_, rfl⟩
  have htl : t.length = s.size + 2 := by rw [← ht, List.length_append, low_length, str_len]; omega
  have HT : Hid (low s.size 2 ++ s.data.toList = t) := ht
  have HL : Hid (ns.length = n) := hl
  have HTL : Hid (t.length = s.size + 2) := htl
  clear ht hl htl
  go_enter Try.func7, Try.ntmps7
  go_wp2_with fail
  refine (known_any _).mono ?_
  rintro e w1 ⟨rfl, hbel1⟩
  go_wp2_with fail
  go_loopw [5, 6] (fun v i wr => ∃ k : Nat, k ≤ n ∧ i = .int .i64 k ∧ ∃ ao m c, v = .slice ao m c ∧ Bs wr ao m c (encs t 0 (ns.take k)) ∧ Below w.heap.size w wr) (fun _ i _ => n - (intOf i).toNat)
  case atStart => exact ⟨0, by omega, rfl, none, 0, 0, rfl, by simpa [encs] using Bs.nil w1, hbel1⟩
  case round =>
    obtain ⟨k, hk, rfl, ao, m, c, rfl, hb, hbel⟩ := hrel
    by_cases hlt : k < n
    · obtain ⟨b, off, rfl, hc⟩ := hcell (by omega)
      have hck : wr.cell? ⟨b, off + k, none⟩ = some (.int .u64 (ns.getD k 0 : Nat)) := (hbel.cell (p := ⟨b, off + k, none⟩) (World.block_lt_of_cell? _ _ (hc k hlt))).trans (hc k hlt)
      have hxk := hx k hlt
      have HS : Hid _ := encs_take t ns k (by rw [HL.out]; exact hlt)
      have hml := hb.1
      have hm : m ≤ 20000 := by
        have h1 := encs_len t (ns.take k) 0
        have h2 : (ns.take k).length ≤ 20 := by rw [List.length_take]; omega
        have h3 : (ns.take k).length * (9 + t.length) ≤ 20 * 111 := Nat.mul_le_mul h2 (by rw [HTL.out]; omega)
        omega
      clear hml hc hcell
      generalize ns.getD k 0 = x at *
      go_wp2_with fail
      refine (put_any ao m c x _ _ wr hb (by omega)).mono ?_
      rintro e w2 ⟨ao2, m2, c2, rfl, hb2, hbel2⟩
      rw [held_of] at hb2
      have hm2 : m2 ≤ 20008 := by
        have h1 := hb2.1
        have h2 := hb.1
        have h3 : k % 9 < 9 := Nat.mod_lt _ (by decide)
        rw [List.length_append, low_length, h2] at h1
        omega
      go_wp2_with fail
      refine (text_any ao2 m2 c2 s _ w2 hb2 (by omega) (by omega)).mono ?_
      rintro e w3 ⟨ao3, m3, c3, rfl, hb3, hbel3⟩
      have hbelA := Below.chain hbel (Below.chain hbel2 hbel3)
      rw [HT.out, List.append_assoc, ← HS.out] at hb3
      clear hbel2 hbel3 hbel
      go_wp2
      go_roundw
      case rel => exact ⟨k + 1, by omega, by go_num, _, _, _, rfl, hb3, hbelA⟩
      case measure => simp [intOf]; omega
    · obtain rfl : k = n := by omega
      rw [List.take_of_length_le (by rw [HL.out]; omega)] at hb
      have hm0 := encs_len t ns 0
      have hm : m ≤ 20 * 111 := by
        have h1 := hb.1
        have h3 : ns.length * (9 + t.length) ≤ 20 * 111 := Nat.mul_le_mul (by rw [HL.out]; omega) (by rw [HTL.out]; omega)
        omega
      clear hm0
      go_wp2_with fail
      go_loopw [5, 7] (fun v i wr => ∃ j : Nat, j ≤ k ∧ i = .int .i64 j ∧ ∃ ao m c, v = .slice ao m c ∧ m ≤ 20 * 111 ∧ Bs wr ao m c (encs t j (ns.drop j)) ∧ Below w.heap.size w wr) (fun _ i _ => k - (intOf i).toNat)
      case atStart => exact ⟨0, by omega, rfl, _, _, _, rfl, hm, by simpa using hb, hbel⟩
      case round =>
        clear hb hbel hm
        obtain ⟨j, hj, rfl, ao, m, c, rfl, hm, hb, hbel⟩ := hrel
        by_cases hlt : j < k
        · obtain ⟨b, off, rfl, hc⟩ := hcell (by omega)
          have hck := (hbel.cell (p := ⟨b, off + j, none⟩) (World.block_lt_of_cell? _ _ (hc j hlt))).trans (hc j hlt)
          have hxk := hx j hlt
          rw [encs_drop t ns j (by rw [HL.out]; exact hlt)] at hb
          clear hc hcell
          generalize ns.getD j 0 = x at *
          rw [List.append_assoc] at hb
          have hcall := num_back ao m c x (j % 9) ((j : Int) % 9) _ wr (held_of j) hb (by omega)
          have hm9 : j % 9 < 9 := Nat.mod_lt _ (by decide)
          have HY : Hid (j % 9 < 8 → bits BinOp.and IntKind.u64 (x : Int) (IntKind.u64.wrap (IntKind.u64.wrap (2 ^ (8 * (j % 9))) - 1)) = ((x % 256 ^ (j % 9) : Nat) : Int)) := fun h => mask_of hxk h
          have HZ : Hid (¬ j % 9 < 8 → x % 256 ^ (j % 9) = x) := fun h => by
            rw [show j % 9 = 8 by omega]
            exact Nat.mod_eq_of_lt (by omega)
          generalize x % 256 ^ (j % 9) = y at *
          have HC : Hid _ := hcall
          clear hcall
          by_cases h8 : j % 9 < 8
          · have hmask := HY.out h8
            have h8' : (j : Int) % 9 < 8 := by omega
            go_wp2_with fail
            refine Calls.mono HC.out ?_
            rintro e w4 ⟨ao4, m4, c4, rfl, hb4, hm4, hbel4⟩
            rw [← HT.out, List.append_assoc] at hb4
            go_wp2_with fail
            refine (text_back ao4 m4 c4 s _ 100 w4 (by omega) hb4 (by omega) (by omega)).mono ?_
            rintro e w5 ⟨ao5, m5, c5, rfl, hb5, hbel5⟩
            have hbelB := Below.chain hbel (Below.chain hbel4 hbel5)
            have hm5 : m5 ≤ 20 * 111 := by
              have h1 := hb4.1
              have h2 := hb5.1
              rw [List.length_append, List.length_append, h2] at h1
              omega
            rw [HT.out] at hb5
            go_wp2
            go_roundw
            case rel => exact ⟨j + 1, by omega, by go_num, _, _, _, rfl, hm5, hb5, hbelB⟩
            case measure => simp [intOf]; omega
          · obtain rfl := HZ.out h8
            have h8' : ¬ (j : Int) % 9 < 8 := by omega
            go_wp2_with fail
            refine Calls.mono HC.out ?_
            rintro e w4 ⟨ao4, m4, c4, rfl, hb4, hm4, hbel4⟩
            rw [← HT.out, List.append_assoc] at hb4
            go_wp2_with fail
            refine (text_back ao4 m4 c4 s _ 100 w4 (by omega) hb4 (by omega) (by omega)).mono ?_
            rintro e w5 ⟨ao5, m5, c5, rfl, hb5, hbel5⟩
            have hbelB := Below.chain hbel (Below.chain hbel4 hbel5)
            have hm5 : m5 ≤ 20 * 111 := by
              have h1 := hb4.1
              have h2 := hb5.1
              rw [List.length_append, List.length_append, h2] at h1
              omega
            rw [HT.out] at hb5
            go_wp2
            go_roundw
            case rel => exact ⟨j + 1, by omega, by go_num, _, _, _, rfl, hm5, hb5, hbelB⟩
            case measure => simp [intOf]; omega
        · obtain rfl : j = k := by omega
          rw [List.drop_of_length_le (by rw [HL.out]; omega)] at hb
          obtain rfl : 0 = m := hb.1
          go_wp2
          go_ret
          exact ⟨rfl, hbel⟩

theorem walk_long (a : Option Addr) (n cap : Nat) (s : ByteArray) (w : World) (hn : n ≤ 9223372036854775807) (hm : s.size ≤ maxLen) (h : 20 < n ∨ 100 < s.size) :
    Calls Try.prog 7 #[.slice a n cap, .string s] w fun e w' => e = .returned (.bool true) ∧ Below w.heap.size w w' := by
  unfold maxLen at hm
  by_cases h1 : 20 < n
  · have h1' : (20 : Int) < (n : Int) := by omega
    go_enter Try.func7, Try.ntmps7
    go_wp2_with fail
    refine (known_any _).mono ?_
    rintro e w1 ⟨rfl, hbel1⟩
    go_wp2
    go_ret
    exact ⟨rfl, hbel1⟩
  · have h1' : ¬ (20 : Int) < (n : Int) := by omega
    have h2' : (100 : Int) < (s.size : Int) := by omega
    go_enter Try.func7, Try.ntmps7
    go_wp2_with fail
    refine (known_any _).mono ?_
    rintro e w1 ⟨rfl, hbel1⟩
    go_wp2
    go_ret
    exact ⟨rfl, hbel1⟩

theorem walk (a0 : Option Addr) (len0 cap0 : Nat) (z0 : List Int) (a1 : ByteArray) (w : World) (w0 : IsRow .u64 w a0 len0 cap0 z0) (w1 : a1.size ≤ maxLen) :
    Calls Try.prog 7 #[.slice a0 len0 cap0, .string a1] w fun e w' => e = .returned (.bool true) ∧ Below w.heap.size w w' := by
  obtain ⟨hlen, ns, hl, hx, hc⟩ := w0.nums
  by_cases h : 20 < len0 ∨ 100 < a1.size
  · exact walk_long a0 len0 cap0 a1 w hlen w1 h
  · exact walk_in a0 len0 cap0 ns a1 w (by omega) (by omega) hl hx hc

/-! ### THE ROW's STEP: WRITTEN OUT: LEAVE IT -/
set_option maxRecDepth 100000 in
theorem lifted (os : Os) (started : os.Started) (H : Type) (enc : TypeId × Value → H) :
    ReturnsInHanded {} Try.checked os 7 .any (Rows.bitsRowsSpec.pre6 enc Try.prog Try.f7 Rows.bitsRowsRow.domain false) (Rows.bitsRowsSpec.post enc Try.prog Try.f7 false true false false) := by
  refine returnsInHanded_of_change (C := Try.checked) own started (by kernel_rfl) Try.func7
    (ChangeSpec.witness6 (enc := enc) (C := Try.checked) false ⟨#[], #[.slice none 0 0, .string ByteArray.empty], []⟩ 8 (by kernel_rfl) (by kernel_rfl) (by kernel_rfl) (by kernel_rfl)) ?_
  intro W base args ds gs before hval0 hW hcnd _
  have hval : ∀ (j : Nat) t v, Try.f7.params[j]? = some t → args[j]? = some v → Value.okWide Try.prog W .any base t v := hval0
  have hW' := hW
  obtain ⟨p, q, hA0, hV, rfl, hfz, hnd⟩ := hW
  have hA : DataW.TrodAll enc Try.prog W 0 (fun _ => true) true Try.f7.params.toList args.toList ds p := hA0
  rw [Try.params7] at hA hval
  obtain ⟨v0, vs0, d0, ds0, p0, q0, hargs, rfl, rfl, h0, r0⟩ := trodAll_cons hA
  obtain ⟨v1, vs1, d1, ds1, p1, q1, rfl, rfl, rfl, h1, r1⟩ := trodAll_cons r0
  obtain ⟨rfl, rfl, rfl⟩ := trodAll_nil r1
  obtain rfl : args = #[v0, v1] := by cases args; simp_all
  obtain ⟨rfl, rfl⟩ := trodVars_none hV
  obtain ⟨a0, len0, cap0, rfl⟩ := okWide_slice Try.underlying46 (hval 0 46 v0 rfl rfl)
  have k0 := h0
  have lt0 : ∀ x ∈ p0, x.block < W.heap.size := by obtain ⟨m, hm⟩ := k0; exact DataW.trod_lt m _ _ _ hm
  obtain ⟨z0, w0⟩ : ∃ zs, IsRow .u64 W a0 len0 cap0 zs := by
    obtain ⟨fuel, hf⟩ := h0
    rcases open_ints Try.underlying46 Try.underlying23 (by kernel_rfl) hf with ⟨hcs, _⟩ | ⟨x, l, c, zs, hcs, _, hl, hm, hz, _, hcell, hwz⟩
    · simp [Value.cells] at hcs
      obtain ⟨rfl, rfl, rfl⟩ := hcs
      exact ⟨[], .inl ⟨rfl, rfl, rfl, rfl⟩⟩
    · simp [Value.cells] at hcs
      obtain ⟨rfl, rfl, rfl⟩ := hcs
      exact ⟨zs, .inr ⟨_, rfl, hl, hm, by simpa using hz, hcell, hwz⟩⟩
  obtain ⟨a1, rfl, rfl, rfl, w1⟩ := open_string Try.underlying9 (hval 1 9 v1 rfl rfl) h1
  clear hA0 hval0
  refine (walk a0 len0 cap0 z0 a1 W w0 w1).mono fun e W' ⟨he, bel⟩ => ?_
  subst he
  exact ⟨_, rfl, _, _, _, [], _, [], hW', trodAll_mk1 (shut_bool Try.underlying4 _), (trodAll_cons_mk (Below.trod laidOut (by kernel_rfl) (of_decide_eq_true (by kernel_rfl)) k0 bel lt0) (trodAll_cons_mk (shut_string Try.underlying9 w1) trodAll_mk0)), rfl, bel.frame _, fun h => by cases h⟩

theorem over : Rows.bitsRowsRow.holds Try.pinned (OpenSpec.ofChange Rows.bitsRowsSpec) :=
  OpenClaim.holds_of_wide 7 Try.f7 rfl rfl rfl rfl rfl rfl rfl ⟨rfl, rfl, rfl, rfl, rfl⟩ rfl rfl rfl rfl rfl (by kernel_rfl) Try.func7 (by kernel_rfl)
    (of_decide_eq_true (by kernel_rfl)) (by unfold Func.isWrapper; first | (rw [if_pos (by decide +kernel)]; kernel_rfl) | (rw [if_neg (by decide +kernel)]; exact ⟨rfl, rfl⟩))
    (fun os started H enc _ => lifted os started H enc)

/--  THE STATEMENT  -/
theorem proved : Rows.BitsRowsSaid := over
#print axioms proved
end Go.Proofs.Yteajcgodfbaeiaa.bitsRows
