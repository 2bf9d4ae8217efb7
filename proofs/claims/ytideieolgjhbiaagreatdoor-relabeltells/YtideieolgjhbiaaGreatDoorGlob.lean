/- Glob: for every pattern and text, what the plain words say. -/
import Derived.Test.YtideieolgjhbiaaGreatDoorPairs
import Derived.Test.YtideieolgjhbiaaGreatDoorGPlain
import Derived.Test.YtideieolgjhbiaaGreatDoorShelfG
namespace Go.Proofs.YtideieolgjhbiaaGreatDoor
open Go.RowKit

theorem below_drewN0 {B : Nat} {a w : World} (h : Below B a w) (k : Nat) : Below B a (w.drewN k) := ⟨h.os, h.tape, h.output, h.size, h.block⟩
theorem trimStar_any (r : Str) (w : World) (hr : r.length ≤ 9223372036854775807) :
    Calls Tryz.prog 72 #[tx r, .string ⟨#[42]⟩] w fun e w' => e = .returned (tx (Lib.trimB r 42)) ∧ Below w.heap.size w w' := by
  refine (Tryz.strings_Trim_one ⟨r.toArray⟩ 42 (by decide) w (by rw [ba_size]; exact hr)).mono ?_
  rintro e w' ⟨rfl, h | h⟩
  · subst h; exact ⟨rfl, Below.refl _ _⟩
  · subst h; exact ⟨rfl, (Below.refl _ _).drew⟩
theorem byte_eq {a b : UInt8} : ((a.toNat : Int) == (b.toNat : Int)) = (a == b) := by
  rw [Bool.eq_iff_iff, beq_iff_eq, beq_iff_eq]
  constructor
  · intro h; exact UInt8.toNat_inj.1 (by omega)
  · intro h; rw [h]
theorem cut_from (P : Str) (p : Nat) : (⟨P.toArray⟩ : ByteArray).extract p P.length = ⟨(P.drop p).toArray⟩ := by
  rw [Lib.extract_eq]
  congr 2
  exact List.take_of_length_le (by simp)
/-- What is left of the search. -/
def gleft (n m p k : Nat) (q : Int) : Nat := ((n - q).toNat + (m - k)) * (n + 2) + (n - p)
theorem gleft_star {n m p k i : Nat} {q : Int} (h : q < p) (h2 : k ≤ i) (h3 : p < n) : gleft n m (p + 1) i p < gleft n m p k q := by
  unfold gleft
  have e1 : (n - (p : Int)).toNat + (m - i) + 1 ≤ (n - q).toNat + (m - k) := by omega
  have := Nat.mul_le_mul_right (n + 2) e1
  rw [Nat.add_mul] at this
  omega
theorem gleft_match {n m p k : Nat} {q : Int} (h : p < n) : gleft n m (p + 1) k q < gleft n m p k q := by
  unfold gleft; omega
theorem gleft_back {n m p k a : Nat} (h : k < m) : gleft n m (a + 1) (k + 1) a < gleft n m p k a := by
  unfold gleft
  have e1 : (n - (a : Int)).toNat + (m - (k + 1)) + 1 ≤ (n - (a : Int)).toNat + (m - k) := by omega
  have := Nat.mul_le_mul_right (n + 2) e1
  rw [Nat.add_mul] at this
  omega

set_option maxRecDepth 100000 in
set_option maxHeartbeats 2000000 in
theorem glob_any (P S : Str) (w : World) (hP : P.length ≤ 9223372036854775807) (hS : S.length ≤ 9223372036854775807) :
    Calls Tryz.prog 60 #[tx P, tx S] w fun e w' => e = .returned (.bool (gm P S)) ∧ Below w.heap.size w w' := by
  go_enter Tryz.func60, Tryz.ntmps60
  go_wp2_with fail
  go_loopw [5, 6, 7, 8] (fun a b c d wr => ∃ (p i k : Nat) (q : Int), a = .int .i64 p ∧ b = .int .i64 i ∧ c = .int .i64 q ∧ d = .int .i64 k ∧ p ≤ P.length ∧ i ≤ S.length ∧ k ≤ i ∧ -1 ≤ q ∧ q < p ∧ Hid (GI P S p i q k) ∧ Below w.heap.size w wr) (fun a b c d _ => gleft P.length S.length (intOf a).toNat (intOf d).toNat (intOf c))
  case atStart => exact ⟨0, 0, 0, -1, rfl, rfl, rfl, rfl, by omega, by omega, by omega, by omega, by omega, GI_start P S, Below.refl _ _⟩
  case round =>
    obtain ⟨p, i, k, q, rfl, rfl, rfl, rfl, hp, hi, hk, hq1, hq2, HG, hb⟩ := hrel
    by_cases hil : i < S.length
    · have hbi := ba_lt hil
      by_cases hpl : p < P.length
      · have hbp := ba_lt hpl
        have HC : Hid (P[p] = (⟨P.toArray⟩ : ByteArray)[p]'hbp) := rfl
        have HD : Hid (S[i] = (⟨S.toArray⟩ : ByteArray)[i]'hbi) := rfl
        have H1 : Hid (P[p] = 42 → GI P S (p + 1) i p i) := fun h => GI_star HG.out hpl h
        have H2 : Hid (P[p] ≠ 42 → P[p] = 63 ∨ P[p] = S[i] → GI P S (p + 1) (i + 1) q k) := fun h h' => GI_match HG.out hpl hil h h'
        have H3 : Hid (P[p] ≠ 42 ∧ P[p] ≠ 63 ∧ P[p] ≠ S[i] → q = -1 → gm P S = false) := fun h h' => by
          have := HG.out; rw [h'] at this; exact GI_fail this hil (fun _ => h)
        have H4 : Hid (P[p] ≠ 42 ∧ P[p] ≠ 63 ∧ P[p] ≠ S[i] → ∀ a : Nat, q = a → GI P S (a + 1) (k + 1) a (k + 1)) := fun h a h' => by
          have := HG.out; rw [h'] at this; exact GI_back this hil (fun _ => h)
        rw [HC.out] at H1
        rw [HC.out, HD.out] at H2 H3 H4
        clear HC HD HG
        by_cases c1 : (⟨P.toArray⟩ : ByteArray)[p]'hbp = 42
        · have HR : Hid _ := H1.out c1
          have t1 : ((((⟨P.toArray⟩ : ByteArray)[p]'hbp).toNat : Int) == 42) = true := by rw [c1]; rfl
          clear H1 H2 H3 H4 c1
          go_wp2
          go_roundw
          case rel => exact ⟨p + 1, i, i, p, by go_num, rfl, rfl, rfl, by omega, by omega, by omega, by omega, by omega, HR, hb⟩
          case measure =>
            have e1 : ((p : Int) + 1).toNat = p + 1 := by omega
            simp only [intOf, Int.toNat_natCast, e1]
            exact gleft_star hq2 hk hpl
        · have t1 : ((((⟨P.toArray⟩ : ByteArray)[p]'hbp).toNat : Int) == 42) = false := by
            have := @byte_eq ((⟨P.toArray⟩ : ByteArray)[p]'hbp) 42
            rw [show ((42 : UInt8).toNat : Int) = 42 from rfl] at this
            rw [this]; simpa using c1
          by_cases c2 : (⟨P.toArray⟩ : ByteArray)[p]'hbp = 63
          · have t2 : ((((⟨P.toArray⟩ : ByteArray)[p]'hbp).toNat : Int) == 63) = true := by rw [c2]; rfl
            have HR : Hid _ := H2.out c1 (.inl c2)
            clear H1 H2 H3 H4 c1 c2
            go_wp2
            go_quiet (fail)
            go_wp2
            go_roundw
            case rel => exact ⟨p + 1, i + 1, k, q, by go_num, by go_num, rfl, rfl, by omega, by omega, by omega, by omega, by omega, HR, below_drewN0 hb _⟩
            case measure =>
              have e1 : ((p : Int) + 1).toNat = p + 1 := by omega
              simp only [intOf, Int.toNat_natCast, e1]
              exact gleft_match hpl
          · have t2 : ((((⟨P.toArray⟩ : ByteArray)[p]'hbp).toNat : Int) == 63) = false := by
              have := @byte_eq ((⟨P.toArray⟩ : ByteArray)[p]'hbp) 63
              rw [show ((63 : UInt8).toNat : Int) = 63 from rfl] at this
              rw [this]; simpa using c2
            by_cases c3 : (⟨P.toArray⟩ : ByteArray)[p]'hbp = (⟨S.toArray⟩ : ByteArray)[i]'hbi
            · have t3 : ((((⟨P.toArray⟩ : ByteArray)[p]'hbp).toNat : Int) == (((⟨S.toArray⟩ : ByteArray)[i]'hbi).toNat : Int)) = true := by rw [byte_eq]; simpa using c3
              have HR : Hid _ := H2.out c1 (.inr c3)
              clear H1 H2 H3 H4 c1 c2 c3
              go_wp2
              go_quiet (fail)
              go_wp2
              go_roundw
              case rel => exact ⟨p + 1, i + 1, k, q, by go_num, by go_num, rfl, rfl, by omega, by omega, by omega, by omega, by omega, HR, below_drewN0 hb _⟩
              case measure =>
                have e1 : ((p : Int) + 1).toNat = p + 1 := by omega
                simp only [intOf, Int.toNat_natCast, e1]
                exact gleft_match hpl
            · have t3 : ((((⟨P.toArray⟩ : ByteArray)[p]'hbp).toNat : Int) == (((⟨S.toArray⟩ : ByteArray)[i]'hbi).toNat : Int)) = false := by rw [byte_eq]; simpa using c3
              by_cases hq : 0 ≤ q
              · obtain ⟨a, rfl⟩ : ∃ a : Nat, q = a := ⟨q.toNat, by omega⟩
                have HR : Hid _ := H4.out ⟨c1, c2, c3⟩ a rfl
                clear H1 H2 H3 H4 c1 c2 c3
                go_wp2
                go_quiet (fail)
                go_wp2
                go_roundw
                case rel => exact ⟨a + 1, k + 1, k + 1, a, by go_num, by go_num, rfl, by go_num, by omega, by omega, by omega, by omega, by omega, HR, below_drewN0 hb _⟩
                case measure =>
                  have e1 : ((a : Int) + 1).toNat = a + 1 := by omega
                  have e2 : ((k : Int) + 1).toNat = k + 1 := by omega
                  simp only [intOf, Int.toNat_natCast, e1, e2]
                  exact gleft_back (by omega)
              · have HR : Hid _ := H3.out ⟨c1, c2, c3⟩ (by omega)
                clear H1 H2 H3 H4 c1 c2 c3
                go_wp2
                go_quiet (fail)
                go_wp2
                go_ret
                exact ⟨by rw [HR.out]; rfl, below_drewN0 hb _⟩
      · have hx : ∀ hp : p < P.length, P[p] ≠ 42 ∧ P[p] ≠ 63 ∧ P[p] ≠ S[i] := fun h => absurd h hpl
        by_cases hq : 0 ≤ q
        · obtain ⟨a, rfl⟩ : ∃ a : Nat, q = a := ⟨q.toNat, by omega⟩
          have HR : Hid _ := GI_back HG.out hil hx
          clear HG hx
          go_wp2
          go_quiet (fail)
          go_wp2
          go_roundw
          case rel => exact ⟨a + 1, k + 1, k + 1, a, by go_num, by go_num, rfl, by go_num, by omega, by omega, by omega, by omega, by omega, HR, below_drewN0 hb _⟩
          case measure =>
            have e1 : ((a : Int) + 1).toNat = a + 1 := by omega
            have e2 : ((k : Int) + 1).toNat = k + 1 := by omega
            simp only [intOf, Int.toNat_natCast, e1, e2]
            exact gleft_back (by omega)
        · have HR : Hid (gm P S = false) := by
            have := HG.out; rw [show q = -1 from by omega] at this; exact GI_fail this hil hx
          clear HG hx
          go_wp2
          go_quiet (fail)
          go_wp2
          go_ret
          exact ⟨by rw [HR.out]; rfl, below_drewN0 hb _⟩
    · have HR : Hid (gm P S = (P.drop p).all (· == 42)) := GI_end HG.out (by omega)
      clear HG
      have hx : (⟨P.toArray⟩ : ByteArray).extract p P.length = ⟨(P.drop p).toArray⟩ := cut_from P p
      have hT : ∀ W, Calls Tryz.prog 72 #[.string ((⟨P.toArray⟩ : ByteArray).extract p P.length), .string ⟨#[42]⟩] W fun e w' => e = .returned (tx (Lib.trimB (P.drop p) 42)) ∧ Below W.heap.size W w' := fun W => by
        rw [hx]; exact trimStar_any (P.drop p) W (by rw [List.length_drop]; omega)
      have HB : Hid ((Lib.trimB (P.drop p) 42 == []) = gm P S) := by
        show _ = _
        rw [HR.out, Bool.eq_iff_iff, beq_iff_eq, trim_nil]
      clear hx HR
      generalize Lib.trimB (P.drop p) 42 = r at *
      go_wp2_with fail
      refine (hT _).mono ?_
      rintro e w1 ⟨rfl, hb1⟩
      have hb2 := Below.chain hb hb1
      clear hb hb1 hT
      cases hg : gm P S with
      | true =>
        rw [hg] at HB
        have h0 : (r == []) = true := HB.out
        go_wp2_with fail
        go_ret
        exact ⟨by rw [hg]; rfl, hb2⟩
      | false =>
        rw [hg] at HB
        have h0 : (r == []) = false := HB.out
        go_wp2_with fail
        go_ret
        exact ⟨by rw [hg]; rfl, hb2⟩
end Go.Proofs.YtideieolgjhbiaaGreatDoor
