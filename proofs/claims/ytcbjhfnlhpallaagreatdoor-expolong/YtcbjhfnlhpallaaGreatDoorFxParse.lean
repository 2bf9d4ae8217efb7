/- Parse: for every text of at most a thousand bytes. -/
import Derived.Test.YtcbjhfnlhpallaaGreatDoorFxDig
namespace Go.Proofs.YtcbjhfnlhpallaaGreatDoor.Fx
open Go.RowKit

def mns (l : List UInt8) : Bool := decide (l.head? = some 45)
def bare (l : List UInt8) : List UInt8 := if mns l = true then l.tail else l
/-- A text that is a number's: perhaps a minus, 1 to 13 digits, perhaps a point and 1 to 6 digits. -/
def okT (l : List UInt8) : Bool := fWhole (cutP (bare l)).1 && (!(cutP (bare l)).2.2 || fDigits (cutP (bare l)).2.1 6)
def magT (l : List UInt8) : Nat := rd ((cutP (bare l)).1 ++ (cutP (bare l)).2.1) * 10 ^ (6 - (cutP (bare l)).2.1.length)
def fParse (l : List UInt8) : Option (Option Int) := if l = [111, 118, 102] then some none else if okT l = true then some (sgn (mns l) (magT l)) else none
def po : Option (Option Int) → Bool
  | none => false
  | some r => ov r
def pn : Option (Option Int) → Int
  | none => 0
  | some r => nn r
def pe : Option (Option Int) → Int
  | none => 20
  | some _ => 0

theorem has_minus (l : List UInt8) : Lib.hasPrefix l [45] = mns l := by
  cases l with
  | nil => rfl
  | cons c r =>
    by_cases h : c = 45
    · subst h
      simp [Lib.hasPrefix, mns]
    · have h' : ¬ (45 : UInt8) = c := fun e => h e.symm
      simp [Lib.hasPrefix, mns, List.isPrefixOf, h, h']
theorem trim_minus (l : List UInt8) : Lib.trimPrefix l [45] = bare l := by
  unfold Lib.trimPrefix bare
  rw [has_minus]
  simp
theorem prefix_any (l : List UInt8) (w : World) : Calls Tryz.prog 68 #[.string ⟨l.toArray⟩, .string ⟨#[45]⟩] w fun e w' => e = .returned (.tuple #[.string ⟨(bare l).toArray⟩, .bool (mns l)]) ∧ w = w' := by
  refine (Tryz.fx_strings_CutPrefix ⟨l.toArray⟩ ⟨#[45]⟩ w).mono ?_
  rintro e w' ⟨rfl, rfl⟩
  refine ⟨?_, rfl⟩
  have e1 : (⟨l.toArray⟩ : ByteArray).data.toList = l := by simp
  have e2 : (⟨#[45]⟩ : ByteArray).data.toList = [45] := rfl
  rw [e1, e2, has_minus, trim_minus]
theorem bare_le (l : List UInt8) : (bare l).length ≤ l.length := by
  unfold bare
  split
  · rw [List.length_tail]; omega
  · omega
theorem cut_le (l : List UInt8) : (cutP l).1.length ≤ l.length ∧ (cutP l).2.1.length ≤ l.length := by
  rcases cut_index l with ⟨h1, _⟩ | ⟨i, h1, _, h3⟩
  · rw [h1]; simp
  · rw [h3]; simp; omega
theorem cut_none {l : List UInt8} (h : (cutP l).2.2 = false) : (cutP l).2.1 = [] := by
  rcases cut_index l with ⟨h1, _⟩ | ⟨i, h1, _, h3⟩
  · rw [h1]
  · rw [h3] at h; cases h
theorem digits_of {l : List UInt8} {k : Nat} (h : fDigits l k = true) : 1 ≤ l.length ∧ l.length ≤ k ∧ dgs l = true := by
  unfold fDigits at h
  simp at h
  exact ⟨by omega, h.2.1, h.2.2⟩
theorem whole_of {l : List UInt8} (h : fWhole l = true) : 1 ≤ l.length ∧ l.length ≤ 13 ∧ dgs l = true := by
  unfold fWhole at h
  simp at h
  exact digits_of h.1
set_option maxHeartbeats 2000000 in
theorem parse_any (l : List UInt8) (w : World) (hl : l.length ≤ 1000) :
    Calls Tryz.prog 38 #[.string ⟨l.toArray⟩] w fun e w' => e = .returned (.tuple #[.agg #[.bool (po (fParse l)), .int .i64 (pn (fParse l))], .int .i64 (pe (fParse l))]) ∧ Below w.heap.size w w' := by
  have hx := Box.new w false 0
  have hb0 : Below w.heap.size w (w.alloc (.cells #[.bool false, .int .i64 0] 32)) := bal (Below.refl _ _) _
  by_cases ho : l = [111, 118, 102]
  · subst ho
    go_enter Tryz.func38, Tryz.ntmps38
    go_wp2_with fail
    refine (overflow_any _).mono ?_
    rintro e w1 ⟨rfl, hb1⟩
    obtain ⟨c0, c1, f0, f1⟩ := hx.later hb1
    go_wp2
    exact bodyPost_ret (v := .tuple #[.agg #[.bool true, .int .i64 0], .int .i64 0]) (by simp [results, Tryz.results38, go_sem, c0, c1]) rfl ⟨rfl, put2 (Below.chain hb0 hb1) (by omega) _ _⟩
  · have ho' : (l == [111, 118, 102]) = false := by simpa using ho
    have hbl := bare_le l
    have hcl := cut_le (bare l)
    have hp := prefix_any l
    have hc := fun w => cut_any (bare l) w (by omega)
    have e0 : fParse l = if okT l = true then some (sgn (mns l) (magT l)) else none := by unfold fParse; rw [if_neg ho]
    rw [e0]
    unfold okT magT
    have hno := cut_none (l := bare l)
    generalize cutP (bare l) = C at *
    obtain ⟨A, D, F⟩ := C
    dsimp only at *
    generalize bare l = t at *
    have hA := fun w => isWhole_any A w (by omega)
    have hD := fun w => isDigits_any D 6 w (by omega)
    have HN : Hid _ := hno
    clear hno e0
    have hap := ba_append A D
    cases hw : fWhole A with
    | false =>
      rw [hw] at hA
      go_enter Tryz.func38, Tryz.ntmps38
      go_wp2_with (go_at_call 68; refine (hp _).mono ?_; rintro e w' ⟨rfl, rfl⟩)
      refine (hc _).mono ?_
      rintro e w1 ⟨rfl, hb1⟩
      obtain ⟨c0, c1, f0, f1⟩ := hx.later hb1
      go_wp2_with (go_at_call 70; refine (hA _).mono ?_; rintro e w' ⟨rfl, rfl⟩)
      exact bodyPost_ret (v := .tuple #[.agg #[.bool false, .int .i64 0], .int .i64 20]) (by simp [results, Tryz.results38, go_sem, c0, c1]) rfl ⟨rfl, put2 (Below.chain hb0 hb1) (by omega) _ _⟩
    | true =>
      rw [hw] at hA
      cases F with
      | true =>
        cases hd : fDigits D 6 with
        | false =>
          rw [hd] at hD
          go_enter Tryz.func38, Tryz.ntmps38
          go_wp2_with (go_at_call 68; refine (hp _).mono ?_; rintro e w' ⟨rfl, rfl⟩)
          refine (hc _).mono ?_
          rintro e w1 ⟨rfl, hb1⟩
          obtain ⟨c0, c1, f0, f1⟩ := hx.later hb1
          go_wp2_with (first | (go_at_call 70; refine (hA _).mono ?_; rintro e w' ⟨rfl, rfl⟩) | (go_at_call 71; refine (hD _).mono ?_; rintro e w' ⟨rfl, rfl⟩))
          exact bodyPost_ret (v := .tuple #[.agg #[.bool false, .int .i64 0], .int .i64 20]) (by simp [results, Tryz.results38, go_sem, c0, c1]) rfl ⟨rfl, put2 (Below.chain hb0 hb1) (by omega) _ _⟩
        | true =>
          rw [hd] at hD
          have HDD : Hid (D.length ≤ 6 ∧ dgs D = true) := (digits_of hd).2
          have hdg : dgs (A ++ D) = true := by rw [dgs_append, (whole_of hw).2.2, HDD.out.2]; rfl
          have hlA := (whole_of hw).2.1
          have hlD := HDD.out.1
          have hlen : (A ++ D).length ≤ 19 := by rw [List.length_append]; omega
          have hrd := fun w => read_any (A ++ D) w hlen hdg
          have hlt0 := rd_lt (A ++ D).length (A ++ D) hdg (Nat.le_refl _)
          rw [List.take_of_length_le (Nat.le_refl _)] at hlt0
          have hlt1 : rd (A ++ D) * 10 ^ (6 - D.length) < 10000000000000000000 := by
            have e1 : rd (A ++ D) * 10 ^ (6 - D.length) < 10 ^ (A ++ D).length * 10 ^ (6 - D.length) := (Nat.mul_lt_mul_right (Nat.pos_of_ne_zero (by simp))).2 hlt0
            rw [← Nat.pow_add] at e1
            have e2 : 10 ^ ((A ++ D).length + (6 - D.length)) ≤ 10 ^ 19 := Nat.pow_le_pow_right (by omega) (by rw [List.length_append]; omega)
            have e3 : (10 : Nat) ^ 19 = 10000000000000000000 := by decide
            omega
          have hs := signed_any (mns l) (rd (A ++ D) * 10 ^ (6 - D.length))
          have HL1 : Hid _ := hlt1
          have HL : Hid _ := hlen
          clear hlt0 hlt1 hdg hlen
          generalize rd (A ++ D) = r at *
          have hap' : (A ++ D).length ≤ 1000 := by have := HL.out; omega
          rw [List.length_append] at hap'
          go_enter Tryz.func38, Tryz.ntmps38
          go_wp2_with (go_at_call 68; refine (hp _).mono ?_; rintro e w' ⟨rfl, rfl⟩)
          refine (hc _).mono ?_
          rintro e w1 ⟨rfl, hb1⟩
          have hx1 := hx.later hb1
          go_wp2_with (first | (go_at_call 70; refine (hA _).mono ?_; rintro e w' ⟨rfl, rfl⟩) | (go_at_call 71; refine (hD _).mono ?_; rintro e w' ⟨rfl, rfl⟩) | (go_at_call 72; refine (hrd _).mono ?_; rintro e w' ⟨rfl, rfl⟩))
          go_loop [9, 43] (fun m i => ∃ j : Nat, j ≤ 6 - D.length ∧ i = .int .i64 j ∧ m = .int .u64 ((r * 10 ^ j : Nat) : Int)) (fun _ i => 6 - (intOf i).toNat)
          case atStart => exact ⟨0, by omega, rfl, by simp⟩
          case round =>
            obtain ⟨j, hj, rfl, rfl⟩ := hrel
            by_cases hlt : j < 6 - D.length
            · have hN : r * 10 ^ (j + 1) < 10000000000000000000 := Nat.lt_of_le_of_lt (Nat.mul_le_mul_left _ (Nat.pow_le_pow_right (by omega) hlt)) HL1.out
              have HS : Hid (r * 10 ^ (j + 1) = r * 10 ^ j * 10) := by
                show _ = _
                rw [Nat.pow_succ, Nat.mul_assoc]
              rw [HS.out] at hN
              generalize r * 10 ^ j = N at *
              have hlt' : (j : Int) < 6 - (D.length : Int) := by omega
              go_wp2_with fail
              go_round
              case rel => exact ⟨j + 1, by omega, by go_num, by rw [HS.out]; go_num⟩
              case measure => simp [intOf]; omega
            · obtain rfl : j = 6 - D.length := by omega
              have hlt' : ¬ ((6 - D.length : Nat) : Int) < 6 - (D.length : Int) := by omega
              generalize hNN : r * 10 ^ (6 - D.length) = N at *
              have HNN : Hid _ := hNN
              clear hNN
              go_wp2_with fail
              refine (hs _ (by have := HL1.out; omega)).mono ?_
              rintro e w2 ⟨rfl, hb2⟩
              obtain ⟨c0, c1, f0, f1⟩ := hx1.later hb2
              go_wp2
              exact bodyPost_ret (v := .tuple #[.agg #[.bool (ov (sgn (mns l) N)), .int .i64 (nn (sgn (mns l) N))], .int .i64 0]) (by simp [results, Tryz.results38, go_sem, c0, c1]) rfl ⟨by rw [HNN.out]; rfl, put2 (Below.chain (Below.chain hb0 hb1) hb2) (by omega) _ _⟩
      | false =>
        have hDn := HN.out rfl
        have HDD : Hid (D.length ≤ 6 ∧ dgs D = true) := by rw [hDn]; exact ⟨by simp, rfl⟩
        clear hDn
        have hdg : dgs (A ++ D) = true := by rw [dgs_append, (whole_of hw).2.2, HDD.out.2]; rfl
        have hlA := (whole_of hw).2.1
        have hlD := HDD.out.1
        have hlen : (A ++ D).length ≤ 19 := by rw [List.length_append]; omega
        have hrd := fun w => read_any (A ++ D) w hlen hdg
        have hlt0 := rd_lt (A ++ D).length (A ++ D) hdg (Nat.le_refl _)
        rw [List.take_of_length_le (Nat.le_refl _)] at hlt0
        have hlt1 : rd (A ++ D) * 10 ^ (6 - D.length) < 10000000000000000000 := by
          have e1 : rd (A ++ D) * 10 ^ (6 - D.length) < 10 ^ (A ++ D).length * 10 ^ (6 - D.length) := (Nat.mul_lt_mul_right (Nat.pos_of_ne_zero (by simp))).2 hlt0
          rw [← Nat.pow_add] at e1
          have e2 : 10 ^ ((A ++ D).length + (6 - D.length)) ≤ 10 ^ 19 := Nat.pow_le_pow_right (by omega) (by rw [List.length_append]; omega)
          have e3 : (10 : Nat) ^ 19 = 10000000000000000000 := by decide
          omega
        have hs := signed_any (mns l) (rd (A ++ D) * 10 ^ (6 - D.length))
        have HL1 : Hid _ := hlt1
        have HL : Hid _ := hlen
        clear hlt0 hlt1 hdg hlen
        generalize rd (A ++ D) = r at *
        have hap' : (A ++ D).length ≤ 1000 := by have := HL.out; omega
        rw [List.length_append] at hap'
        go_enter Tryz.func38, Tryz.ntmps38
        go_wp2_with (go_at_call 68; refine (hp _).mono ?_; rintro e w' ⟨rfl, rfl⟩)
        refine (hc _).mono ?_
        rintro e w1 ⟨rfl, hb1⟩
        have hx1 := hx.later hb1
        go_wp2_with (first | (go_at_call 70; refine (hA _).mono ?_; rintro e w' ⟨rfl, rfl⟩) | (go_at_call 71; refine (hD _).mono ?_; rintro e w' ⟨rfl, rfl⟩) | (go_at_call 72; refine (hrd _).mono ?_; rintro e w' ⟨rfl, rfl⟩))
        go_loop [9, 43] (fun m i => ∃ j : Nat, j ≤ 6 - D.length ∧ i = .int .i64 j ∧ m = .int .u64 ((r * 10 ^ j : Nat) : Int)) (fun _ i => 6 - (intOf i).toNat)
        case atStart => exact ⟨0, by omega, rfl, by simp⟩
        case round =>
          obtain ⟨j, hj, rfl, rfl⟩ := hrel
          by_cases hlt : j < 6 - D.length
          · have hN : r * 10 ^ (j + 1) < 10000000000000000000 := Nat.lt_of_le_of_lt (Nat.mul_le_mul_left _ (Nat.pow_le_pow_right (by omega) hlt)) HL1.out
            have HS : Hid (r * 10 ^ (j + 1) = r * 10 ^ j * 10) := by
              show _ = _
              rw [Nat.pow_succ, Nat.mul_assoc]
            rw [HS.out] at hN
            generalize r * 10 ^ j = N at *
            have hlt' : (j : Int) < 6 - (D.length : Int) := by omega
            go_wp2_with fail
            go_round
            case rel => exact ⟨j + 1, by omega, by go_num, by rw [HS.out]; go_num⟩
            case measure => simp [intOf]; omega
          · obtain rfl : j = 6 - D.length := by omega
            have hlt' : ¬ ((6 - D.length : Nat) : Int) < 6 - (D.length : Int) := by omega
            generalize hNN : r * 10 ^ (6 - D.length) = N at *
            have HNN : Hid _ := hNN
            clear hNN
            go_wp2_with fail
            refine (hs _ (by have := HL1.out; omega)).mono ?_
            rintro e w2 ⟨rfl, hb2⟩
            obtain ⟨c0, c1, f0, f1⟩ := hx1.later hb2
            go_wp2
            exact bodyPost_ret (v := .tuple #[.agg #[.bool (ov (sgn (mns l) N)), .int .i64 (nn (sgn (mns l) N))], .int .i64 0]) (by simp [results, Tryz.results38, go_sem, c0, c1]) rfl ⟨by rw [HNN.out]; rfl, put2 (Below.chain (Below.chain hb0 hb1) hb2) (by omega) _ _⟩
end Go.Proofs.YtcbjhfnlhpallaaGreatDoor.Fx
