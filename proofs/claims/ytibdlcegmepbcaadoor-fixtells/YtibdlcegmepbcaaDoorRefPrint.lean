/- The document's own Digits and Print: each for every argument. -/
import Derived.Test.YtibdlcegmepbcaaDoorRefMul
import Derived.Test.YtibdlcegmepbcaaDoorNum
namespace Go.Proofs.YtibdlcegmepbcaaDoor
open Go.RowKit

theorem conv_one (W : World) (R : Nat) (h : R < 10) : (convert 74 9 (.slice (some ⟨W.heap.size, 0, none⟩) 1 1)).run Tryd.prog (W.alloc (.cells #[.int .u8 (48 + (R : Int))] 5)) = .ok (.string ⟨#[UInt8.ofNat (48 + R)]⟩) (W.alloc (.cells #[.int .u8 (48 + (R : Int))] 5)) := by
  refine run_convert_bytes_back (P := Tryd.prog) (W.alloc (.cells #[.int .u8 (48 + (R : Int))] 5)) 74 9 5 ⟨W.heap.size, 0, none⟩ 1 [UInt8.ofNat (48 + R)] Tryd.underlying74 Tryd.underlying5 Tryd.underlying9 (fun j hj => ?_)
  obtain rfl : j = 0 := by simpa using hj
  rw [Lib.add_plain, World.cell?_alloc_new]
  have : (UInt8.ofNat (48 + R)).toNat = 48 + R := by
    rw [UInt8.toNat_ofNat']
    omega
  show some (Value.int .u8 (48 + (R : Int))) = some (.int .u8 ((UInt8.ofNat (48 + R)).toNat : Int))
  rw [this]
  congr 2
set_option maxRecDepth 20000 in
set_option maxHeartbeats 1000000 in
theorem rdigits_any (u : Nat) (w : World) (hu : u < 18446744073709551616) : Calls Tryd.prog 42 #[.int .u64 u] w fun e w' => e = .returned (.string ⟨(Lib.decDigits u).toArray⟩) ∧ Below w.heap.size w w' := by
  have hap := ba_append
  have hlen := dec_short hu
  go_enter Tryd.func42, Tryd.ntmps42
  go_wp2_with fail
  go_loopw [0, 3] (fun a b wr => ∃ (v : Nat) (t : List UInt8), a = .int .u64 v ∧ b = .string ⟨t.toArray⟩ ∧ Hid (Lib.decDigits v ++ t = Lib.decDigits u) ∧ v ≤ u ∧ Below w.heap.size w wr) (fun a _ _ => (intOf a).toNat + 1)
  case atStart => exact ⟨u, [], rfl, rfl, by show _ = _; simp, Nat.le_refl _, Below.refl _ _⟩
  case round =>
    obtain ⟨v, t, rfl, rfl, hd, hv, hbw⟩ := hrel
    have hl : (Lib.decDigits v).length + t.length ≤ 20 := by rw [← List.length_append, hd.out]; exact hlen
    obtain ⟨R, hR⟩ : ∃ R, v % 10 = R := ⟨_, rfl⟩
    obtain ⟨Q, hQ⟩ : ∃ Q, v / 10 = Q := ⟨_, rfl⟩
    have e1 : (v : Int) % 10 = (R : Int) := by omega
    have e2 : (v : Int) / 10 = (Q : Int) := by omega
    have hR10 : R < 10 := by omega
    have hcv := conv_one wr R hR10
    have hQm : Q < 1844674407370955162 := by omega
    obtain ⟨c, hc⟩ : ∃ c, UInt8.ofNat (48 + R) = c := ⟨_, rfl⟩
    rw [hc] at hcv
    have hlt : t.length ≤ 20 := by omega
    by_cases hq : Q = 0
    · have HD : Hid (Lib.decDigits u = c :: t) := by
        show _ = _
        rw [← hd.out, Lib.decDigits_one (by omega)]
        have : v = R := by omega
        rw [this, hc]
        rfl
      have hq' : (Q : Int) = 0 := by omega
      clear hR hQ hv hl hc
      go_wp2_with fail
      go_ret
      exact ⟨by rw [HD.out]; rfl, bal hbw _⟩
    · have hv10 : Lib.decDigits v = Lib.decDigits Q ++ [c] := by rw [Lib.decDigits, dif_neg (by omega), hQ, hR, hc]
      have HD : Hid (Lib.decDigits Q ++ (c :: t) = Lib.decDigits u) := by
        show _ = _
        rw [← hd.out, hv10]
        simp
      have hq' : ¬ (Q : Int) = 0 := by omega
      have hQu : Q ≤ u ∧ Q < v := by omega
      have HQ : Hid _ := hQu
      clear hR hQ hv hl hQu hv10 hc
      go_wp2_with fail
      go_roundw
      case rel => exact ⟨Q, c :: t, rfl, rfl, HD, HQ.out.1, bal hbw _⟩
      case measure => have := HQ.out.2; simp [intOf]; omega

theorem ba_lastget {t : List UInt8} (h : t.length - 1 < (⟨t.toArray⟩ : ByteArray).size) : t.getLast? = some ((⟨t.toArray⟩ : ByteArray)[t.length - 1]'h) := by
  have hl : t.length - 1 < t.length := by rw [ba_size] at h; exact h
  rw [List.getLast?_eq_getElem?, List.getElem?_eq_getElem hl]
  rfl
theorem snoc_of_last {t : List UInt8} (h : t.getLast? = some 48) : t = t.take (t.length - 1) ++ [48] := by
  obtain ⟨ys, rfl⟩ := List.getLast?_eq_some_iff.1 h
  simp

set_option maxRecDepth 20000 in
set_option maxHeartbeats 4000000 in
theorem rprint_some (n : Int) (w : World) (hn : R64 n) (hi : fIs false n = true) : Calls Tryd.prog 27 #[.agg #[.bool false, .int .i64 n]] w fun e w' => e = .returned (.string ⟨((if n < 0 then [45] else []) ++ prU n.natAbs).toArray⟩) ∧ Below w.heap.size w w' := by
  have hx := Box.new w false n
  have hb0 : Below w.heap.size w (w.alloc (.cells #[.bool false, .int .i64 n] 23)) := bal (Below.refl _ _) _
  have hmag := fun w => size_any n w hn.1 hn.2
  have hm : n.natAbs < 18446744073709551616 := abs_lt hn
  generalize n.natAbs = M at *
  unfold prU
  obtain ⟨Q, hQ⟩ : ∃ Q, M / 1000000 = Q := ⟨_, rfl⟩
  obtain ⟨R, hR⟩ : ∃ R, M % 1000000 = R := ⟨_, rfl⟩
  have e1 : (M : Int) / 1000000 = (Q : Int) := by omega
  have e2 : (M : Int) % 1000000 = (R : Int) := by omega
  have hQm : Q < 18446744073709551616 := by omega
  have hRm : R < 1000000 := by omega
  rw [hQ, hR]
  clear hQ hR
  have HM : Hid _ := hm
  clear hm
  have hl1 := dec_short hQm
  have hF1 := fun w => rdigits_any Q w hQm
  have hF2 := fun w => rdigits_any (1000000 + R) w (by omega)
  have e3 : ((1000000 + R : Nat) : Int) = (R : Int) + 1000000 := by omega
  rw [e3] at hF2
  have hl3 := frac_short hRm
  have hap := ba_append
  have hdr := ba_drop (Lib.decDigits (1000000 + R)) 1
  have hl4 : 1 ≤ (Lib.decDigits (1000000 + R)).length := by rw [Lib.decDigits_length]; exact Lib.nDigits_pos _
  have hl2 := dec_short (by omega : 1000000 + R < 18446744073709551616)
  have hl5 : (Lib.decDigits (1000000 + R)).tail.length ≤ 20 := by rw [List.length_tail]; omega
  have HT : Hid (Lib.trimRightB (Lib.decDigits (1000000 + R)).tail 48 = fracT R) := rfl
  have H0 : Hid (R = 0 → fracT R = []) := fun h => by rw [h]; exact frac_zero
  have H1 : Hid (¬ R = 0 → fracT R ≠ []) := fun h => frac_ne hRm h
  generalize Lib.decDigits (1000000 + R) = G at *
  generalize Lib.decDigits Q = A at *
  go_enter Tryd.func27, Tryd.ntmps27
  go_wp2_with fail
  refine (ris_any _ _ _ hn.1).mono ?_
  rintro e w1 ⟨rfl, hb1⟩
  rw [hi]
  have hx1 := hx.later hb1
  obtain ⟨c0, c1, f0, f1⟩ := id hx1
  go_wp2_with (go_at_call 39; refine (hmag _).mono ?_; rintro e w' ⟨rfl, rfl⟩)
  refine (hF1 _).mono ?_
  rintro e w2 ⟨rfl, hb2⟩
  go_wp2_with fail
  refine (hF2 _).mono ?_
  rintro e w3 ⟨rfl, hb3⟩
  have hb4 := Below.chain hb1 (Below.chain hb2 hb3)
  have hx4 := hx.later hb4
  have hb5 := Below.chain hb0 hb4
  clear c0 c1 f0 f1
  go_wp2_with fail
  go_loop [5] (fun b => ∃ t : List UInt8, b = .string ⟨t.toArray⟩ ∧ Hid (Lib.trimRightB t 48 = fracT R) ∧ t.length ≤ 20) (fun b => match b with | .string s => s.size | _ => 0)
  case atStart => exact ⟨G.tail, rfl, HT, hl5⟩
  case round =>
    obtain ⟨t, rfl, ht, htl⟩ := hrel
    by_cases h0 : t.length = 0
    · obtain rfl : t = [] := List.eq_nil_of_length_eq_zero h0
      have hf : fracT R = [] := by rw [← ht.out]; rfl
      have hR0 : R = 0 := by
        by_cases h : R = 0
        · exact h
        · exact (H1.out h hf).elim
      have HR0 : Hid _ := hR0
      obtain ⟨c0, c1, f0, f1⟩ := hx4
      clear hR0 hf
      by_cases hneg : n < 0
      · go_wp2_with fail
        go_ret
        exact ⟨by first | rfl | (rw [if_pos HR0.out]; simp), hb5⟩
      · go_wp2_with fail
        go_ret
        exact ⟨by first | rfl | (rw [if_pos HR0.out]; simp), hb5⟩
    · have hbl : t.length - 1 < (⟨t.toArray⟩ : ByteArray).size := by rw [ba_size]; omega
      have hg := ba_lastget hbl
      have h0' : (0 : Int) < t.length := by omega
      have htk := ba_take t (t.length - 1)
      have e5 : ((t.length : Int) - 1).toNat = t.length - 1 := by omega
      by_cases h48 : ((⟨t.toArray⟩ : ByteArray)[t.length - 1]'hbl) = 48
      · have hs := snoc_of_last (hg.trans (congrArg some h48))
        have ht2 : Hid (Lib.trimRightB (t.take (t.length - 1)) 48 = fracT R) := by
          show _ = _
          rw [← ht.out]
          conv => rhs; rw [hs]
          rw [trim_snoc]
        have h48' : (((⟨t.toArray⟩ : ByteArray)[t.length - 1]'hbl).toNat : Int) = 48 := by rw [h48]; rfl
        clear hs hg h48
        go_wp2_with fail
        go_round
        case rel => exact ⟨t.take (t.length - 1), rfl, ht2, by rw [List.length_take]; omega⟩
        case measure =>
          show (⟨(t.take (t.length - 1)).toArray⟩ : ByteArray).size < (⟨t.toArray⟩ : ByteArray).size
          rw [ba_size, ba_size, List.length_take]
          omega
      · have h48' : ¬ (((⟨t.toArray⟩ : ByteArray)[t.length - 1]'hbl).toNat : Int) = 48 := fun e => h48 (UInt8.toNat_inj.1 (by show _ = 48; omega))
        have hf : fracT R = t := by
          rw [← ht.out]
          exact trim_id (by rw [hg]; intro e; exact h48 (Option.some.inj e))
        have hR0 : ¬ R = 0 := fun h => by
          rw [H0.out h] at hf
          rw [← hf] at h0
          exact h0 rfl
        have HR0 : Hid (¬ R = 0) := hR0
        have HF : Hid _ := hf
        have hne : ¬ t = [] := fun h => h0 (by rw [h]; rfl)
        have hneb : (t == []) = false := by simpa using hne
        have hneb2 : (t != []) = true := by simpa using hne
        obtain ⟨c0, c1, f0, f1⟩ := hx4
        clear hR0 hf hg h48
        by_cases hneg : n < 0
        · go_wp2_with fail
          go_ret
          exact ⟨by first | rfl | (rw [HF.out]; rfl) | (rw [if_neg HR0.out, HF.out]; simp), hb5⟩
        · go_wp2_with fail
          go_ret
          exact ⟨by first | rfl | (rw [HF.out]; rfl) | (rw [if_neg HR0.out, HF.out]; simp), hb5⟩

set_option maxHeartbeats 1000000 in
theorem rprint_any (o : Bool) (n : Int) (w : World) (hn : R64 n) : Calls Tryd.prog 27 #[.agg #[.bool o, .int .i64 n]] w fun e w' => e = .returned (.string ⟨(fPrint (cnt o n)).toArray⟩) ∧ Below w.heap.size w w' := by
  have hb0 : Below w.heap.size w (w.alloc (.cells #[.bool o, .int .i64 n] 23)) := bal (Below.refl _ _) _
  rcases cnt_cases (o := o) hn.1 with ⟨rfl, e1⟩ | ⟨rfl, i1, e1⟩ | ⟨rfl, i1, e1⟩
  · rw [e1]
    go_enter Tryd.func27, Tryd.ntmps27
    go_wp2_with fail
    go_ret
    exact ⟨rfl, hb0⟩
  · rw [e1]
    go_enter Tryd.func27, Tryd.ntmps27
    go_wp2_with fail
    refine (ris_any _ _ _ hn.1).mono ?_
    rintro e w1 ⟨rfl, hb1⟩
    rw [i1]
    go_wp2_with fail
    go_ret
    exact ⟨rfl, Below.chain hb0 hb1⟩
  · rw [e1]
    exact rprint_some n w hn i1
end Go.Proofs.YtibdlcegmepbcaaDoor
