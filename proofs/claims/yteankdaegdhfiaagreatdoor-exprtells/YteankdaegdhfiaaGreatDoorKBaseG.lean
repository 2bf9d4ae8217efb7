/- Texts that the others lean on. -/
import Derived.Test.YteankdaegdhfiaaGreatDoorKMAF
namespace Go.Proofs.YteankdaegdhfiaaGreatDoor.Fx
open Go.RowKit
end Go.Proofs.YteankdaegdhfiaaGreatDoor.Fx
namespace Go.Proofs.YteankdaegdhfiaaGreatDoor.Fx
open Go.RowKit
set_option maxHeartbeats 1000000 in
theorem rsigned_any (b : Bool) (m : Nat) (w : World) (hm : m < 18446744073709551616) : Calls Tryz.prog 211 #[.int .u64 m, .bool b] w fun e w' => e = .returned (.agg #[.bool (ov (sgn b m)), .int .i64 (nn (sgn b m))]) ∧ Below w.heap.size w w' := by
 unfold sgn
 by_cases h : 9223372036854775807 < m
 ·
  have hd : (9223372036854775807 : Int) < m := by omega
  rw [if_pos h]
  go_enter Tryz.func211, Tryz.ntmps211
  go_wp2_with fail
  refine (ovf_any _).mono ?_
  rintro e w1 ⟨rfl, hb1⟩
  obtain ⟨c0, c1, f0, f1⟩ := (Box.new w false 0).later hb1
  go_wp2
  exact bodyPost_ret (v := .agg #[.bool true, .int .i64 0]) (by simp [results, Tryz.results211, go_sem, c0, c1]) rfl ⟨rfl, put2 (Below.chain (bal (Below.refl _ _) _) hb1) (by omega) _ _⟩
 ·
  have hd : ¬ (9223372036854775807 : Int) < m := by omega
  rw [if_neg h]
  have e1 : IntKind.i64.wrap (m : Int) = m := by rw [IntKind.wrap_i64]; omega
  have e2 : IntKind.i64.wrap (-(m : Int)) = -(m : Int) := by rw [IntKind.wrap_i64]; omega
  cases b with
  | true =>
   go_enter Tryz.func211, Tryz.ntmps211
   go_wp2
   exact bodyPost_ret (v := .agg #[.bool false, .int .i64 (-(m : Int))]) (by simp [results, Tryz.results211, go_sem]) rfl ⟨rfl, bal (Below.refl _ _) _⟩
  | false =>
   go_enter Tryz.func211, Tryz.ntmps211
   go_wp2
   exact bodyPost_ret (v := .agg #[.bool false, .int .i64 (m : Int)]) (by simp [results, Tryz.results211, go_sem]) rfl ⟨rfl, bal (Below.refl _ _) _⟩
end Go.Proofs.YteankdaegdhfiaaGreatDoor.Fx
namespace Go.Proofs.YteankdaegdhfiaaGreatDoor.Fx
open Go.RowKit
end Go.Proofs.YteankdaegdhfiaaGreatDoor.Fx
namespace Go.Proofs.YteankdaegdhfiaaGreatDoor.Fx
open Go.RowKit
end Go.Proofs.YteankdaegdhfiaaGreatDoor.Fx
namespace Go.Proofs.YteankdaegdhfiaaGreatDoor.Fx
open Go.RowKit
end Go.Proofs.YteankdaegdhfiaaGreatDoor.Fx
namespace Go.Proofs.YteankdaegdhfiaaGreatDoor.Fx
open Go.RowKit
end Go.Proofs.YteankdaegdhfiaaGreatDoor.Fx
namespace Go.Proofs.YteankdaegdhfiaaGreatDoor.Fx
open Go.RowKit
end Go.Proofs.YteankdaegdhfiaaGreatDoor.Fx
namespace Go.Proofs.YteankdaegdhfiaaGreatDoor.Fx
open Go.RowKit
end Go.Proofs.YteankdaegdhfiaaGreatDoor.Fx
namespace Go.Proofs.YteankdaegdhfiaaGreatDoor.Fx
open Go.RowKit
end Go.Proofs.YteankdaegdhfiaaGreatDoor.Fx
namespace Go.Proofs.YteankdaegdhfiaaGreatDoor.Fx
open Go.RowKit
set_option maxHeartbeats 1000000 in
theorem rdig_any (l : List UInt8) (w : World) (hl : l.length ≤ 1000) :
  Calls Tryz.prog 209 #[.string ⟨l.toArray⟩] w fun e w' => (∃ k : Nat, k ≤ l.length ∧ dgs (l.take k) = true ∧ (k = l.length ∨ ∃ h : k < l.length, isDg l[k] = false) ∧ e = .returned (.int .i64 k)) ∧ w = w' := by
 go_enter Tryz.func209, Tryz.ntmps209
 go_wp2_with fail
 go_loop [3] (fun i => ∃ k : Nat, k ≤ l.length ∧ i = .int .i64 k ∧ Hid (dgs (l.take k) = true)) (fun i => l.length - (intOf i).toNat)
 case atStart => exact ⟨0, by omega, rfl, rfl⟩
 case round =>
  obtain ⟨k, hk, rfl, hd⟩ := hrel
  by_cases hlt : k < l.length
  ·
   have hbk := ba_lt hlt
   by_cases hc1 : 48 ≤ (((⟨l.toArray⟩ : ByteArray)[k]'hbk).toNat : Int)
   ·
    by_cases hc2 : (((⟨l.toArray⟩ : ByteArray)[k]'hbk).toNat : Int) ≤ 57
    ·
     have hd' : Hid (dgs (l.take (k + 1)) = true) := by
      show dgs (l.take (k + 1)) = true
      rw [take_snocB l k hlt, dgs_snoc, hd.out]
      simp only [Bool.true_and]
      exact decide_eq_true ⟨hc1, hc2⟩
     go_wp2_with fail
     go_round
     case rel => exact ⟨k + 1, by omega, by go_num, hd'⟩
     case measure => simp [intOf]; omega
    ·
     have hf : Hid (isDg l[k] = false) := decide_eq_false (fun h => hc2 h.2)
     go_wp2_with fail
     go_ret
     exact ⟨⟨k, hk, hd.out, Or.inr ⟨hlt, hf.out⟩, rfl⟩, rfl⟩
   ·
    have hf : Hid (isDg l[k] = false) := decide_eq_false (fun h => hc1 h.1)
    go_wp2_with fail
    go_ret
    exact ⟨⟨k, hk, hd.out, Or.inr ⟨hlt, hf.out⟩, rfl⟩, rfl⟩
  ·
   go_wp2_with fail
   go_ret
   exact ⟨⟨k, hk, hd.out, Or.inl (by omega), rfl⟩, rfl⟩
theorem dgs_at {t : List UInt8} {k a : Nat} (hk : k ≤ t.length) (hd : dgs (t.take k) = true) (h : a < k) : 48 ≤ (((⟨t.toArray⟩ : ByteArray)[a]'(ba_lt (by omega))).toNat : Int) ∧ (((⟨t.toArray⟩ : ByteArray)[a]'(ba_lt (by omega))).toNat : Int) ≤ 57 := by
 have hl : a < (t.take k).length := by rw [List.length_take]; omega
 have := dgs_get hd a hl
 rw [List.getElem_take] at this
 exact this
theorem rd_bound {t : List UInt8} {k a : Nat} (hk : k ≤ t.length) (hd : dgs (t.take k) = true) (h : a ≤ k) : rd (t.take a) < 10 ^ a := by
 have hl : a ≤ (t.take k).length := by rw [List.length_take]; omega
 have := rd_lt a (t.take k) hd hl
 rw [List.take_take, Nat.min_eq_left h] at this
 exact this
theorem rd_next {t : List UInt8} {a : Nat} (h : a < t.length) : rd (t.take (a + 1)) = rd (t.take a) * 10 + (((⟨t.toArray⟩ : ByteArray)[a]'(ba_lt h)).toNat - 48) := by
 rw [take_snocB t a h, rd_snoc]
 rfl
theorem ten13 {a : Nat} (h : a ≤ 13) : 10 ^ a ≤ 10000000000000 := by
 have : 10 ^ a ≤ 10 ^ 13 := Nat.pow_le_pow_right (by omega) h
 exact this
theorem digits_six {r : List UInt8} (hd : dgs r = true) (h1 : 1 ≤ r.length) (h6 : r.length ≤ 6) : fDigits r 6 = true := by
 unfold fDigits
 rw [decide_eq_true h1, decide_eq_true h6, hd]
 rfl
def fr (r : List UInt8) (b : Nat) : Nat := rd (r.take b) * 10 ^ (b - r.length)
theorem fr_zero (r : List UInt8) : fr r 0 = 0 := by
 unfold fr
 rw [List.take_zero, Nat.zero_sub]
 rfl
theorem ten6 {a : Nat} (h : a ≤ 6) : 10 ^ a ≤ 1000000 := by
 have : 10 ^ a ≤ 10 ^ 6 := Nat.pow_le_pow_right (by omega) h
 exact this
theorem fr_lt {r : List UInt8} (hd : dgs r = true) (b : Nat) : fr r b < 10 ^ b := by
 unfold fr
 by_cases h : b ≤ r.length
 ·
  have := rd_lt b r hd h
  rw [show b - r.length = 0 by omega, Nat.pow_zero, Nat.mul_one]
  exact this
 ·
  have h1 := rd_lt r.length r hd (Nat.le_refl _)
  have e : r.take b = r := List.take_of_length_le (by omega)
  rw [List.take_of_length_le (Nat.le_refl _)] at h1
  rw [e]
  have h2 : rd r * 10 ^ (b - r.length) < 10 ^ r.length * 10 ^ (b - r.length) := (Nat.mul_lt_mul_right (Nat.pos_of_ne_zero (by simp))).2 h1
  rw [← Nat.pow_add, show r.length + (b - r.length) = b by omega] at h2
  exact h2
theorem fr_in {t : List UInt8} {a b : Nat} (h : b < (t.drop a).length) (h' : a + b < t.length) : fr (t.drop a) (b + 1) = fr (t.drop a) b * 10 + (((⟨t.toArray⟩ : ByteArray)[a + b]'(ba_lt h')).toNat - 48) := by
 unfold fr
 rw [take_snocB _ b h, rd_snoc, show b + 1 - (t.drop a).length = 0 by omega, show b - (t.drop a).length = 0 by omega, Nat.pow_zero, Nat.mul_one, Nat.mul_one, List.getElem_drop]
 rfl
theorem fr_out {r : List UInt8} {b : Nat} (h : r.length ≤ b) : fr r (b + 1) = fr r b * 10 := by
 unfold fr
 rw [List.take_of_length_le (show r.length ≤ b + 1 by omega), List.take_of_length_le h, show b + 1 - r.length = b - r.length + 1 by omega, Nat.pow_succ, Nat.mul_assoc]
theorem fr_six {r : List UInt8} (h : r.length ≤ 6) : fr r 6 = rd r * 10 ^ (6 - r.length) := by
 unfold fr
 rw [List.take_of_length_le h]
theorem dgs_off {t : List UInt8} {a b : Nat} (hd : dgs (t.drop a) = true) (h : b < (t.drop a).length) (h' : a + b < t.length) : 48 ≤ (((⟨t.toArray⟩ : ByteArray)[a + b]'(ba_lt h')).toNat : Int) ∧ (((⟨t.toArray⟩ : ByteArray)[a + b]'(ba_lt h')).toNat : Int) ≤ 57 := by
 have := dgs_get hd b h
 rw [List.getElem_drop] at this
 exact this
theorem no_digits {r : List UInt8} {j : Nat} (he : j = r.length ∨ ∃ h : j < r.length, isDg r[j] = false) (h : ¬ (1 ≤ j ∧ j ≤ 6 ∧ j = r.length)) : fDigits r 6 = false := by
 rcases he with e | ⟨h1, h2⟩
 ·
  have : ¬ (1 ≤ r.length ∧ r.length ≤ 6) := by omega
  unfold fDigits
  by_cases h1 : 1 ≤ r.length
  ·
   rw [decide_eq_false (show ¬ r.length ≤ 6 by omega)]
   simp
  ·
   rw [decide_eq_false h1]
   rfl
 ·
  have : dgs r = false := by
   unfold dgs
   exact List.all_eq_false.2 ⟨r[j], List.getElem_mem h1, by simp [h2]⟩
  unfold fDigits
  rw [this]
  simp
theorem head_is {t : List UInt8} (h : 0 < t.length) (h3 : (((⟨t.toArray⟩ : ByteArray)[0]'(ba_lt h)).toNat : Int) = 48) : t.head? = some 48 := by
 cases t with
 | nil => cases h
 | cons c r =>
  have h4 : (c.toNat : Int) = 48 := h3
  have h5 : c = 48 := UInt8.toNat_inj.1 (by show c.toNat = 48; omega)
  rw [h5]
  rfl
theorem head_isnt {t : List UInt8} (h : 0 < t.length) (h3 : ¬ (((⟨t.toArray⟩ : ByteArray)[0]'(ba_lt h)).toNat : Int) = 48) : t.head? ≠ some 48 := by
 intro e
 cases t with
 | nil => cases h
 | cons c r =>
  cases e
  exact h3 rfl
def pk (r : Option (Option Int)) : Bool := r.isSome
set_option maxHeartbeats 4000000 in
theorem rparse_any (l : List UInt8) (w : World) (hl : l.length ≤ 1000) :
  Calls Tryz.prog 169 #[.string ⟨l.toArray⟩] w fun e w' => e = .returned (.tuple #[.agg #[.bool (po (fParse l)), .int .i64 (pn (fParse l))], .bool (pk (fParse l))]) ∧ Below w.heap.size w w' := by
 have hx := Box.new w false 0
 have hb0 : Below w.heap.size w (w.alloc (.cells #[.bool false, .int .i64 0] 24)) := bal (Below.refl _ _) _
 by_cases ho : l = [111, 118, 102]
 ·
  subst ho
  go_enter Tryz.func169, Tryz.ntmps169
  go_wp2_with fail
  refine (ovf_any _).mono ?_
  rintro e w1 ⟨rfl, hb1⟩
  obtain ⟨c0, c1, f0, f1⟩ := hx.later hb1
  go_wp2
  exact bodyPost_ret (v := .tuple #[.agg #[.bool true, .int .i64 0], .bool true]) (by simp [results, Tryz.results169, go_sem, c0, c1]) rfl ⟨rfl, put2 (Below.chain hb0 hb1) (by omega) _ _⟩
 ·
  have ho' : (l == [111, 118, 102]) = false := by simpa using ho
  rw [gP_parse ho]
  by_cases h0 : 0 < l.length
  ·
   have hbk := ba_lt h0
   by_cases h3 : (((⟨l.toArray⟩ : ByteArray)[0]'hbk).toNat : Int) = 45
   ·
    obtain ⟨hm, ht⟩ := minus_true h0 h3
    rw [hm, ht]
    clear hm ht ho
    have td := ba_drop l 1
    have h0' : (0 : Int) < l.length := by omega
    obtain ⟨t, hte⟩ : ∃ t, l.tail = t := ⟨_, rfl⟩
    have hlt : t.length ≤ 1000 := by rw [← hte, List.length_tail]; omega
    have hdt : l.drop 1 = t := by rw [List.drop_one]; exact hte
    rw [hdt]
    clear hdt
    go_enter Tryz.func169, Tryz.ntmps169
    go_wp2_with fail
    clear td
    refine (rdig_any t _ hlt).mono ?_
    rintro e w1 ⟨⟨k, hk, hd, he, rfl⟩, rfl⟩
    have HD : Hid _ := hd
    have HE : Hid _ := he
    clear hd he
    by_cases g1 : 1 ≤ k
    ·
     by_cases g2 : k ≤ 13
     ·
      have g1' : ¬ (k : Int) < 1 := by omega
      have g2' : ¬ (13 : Int) < (k : Int) := by omega
      by_cases g3 : k = 1
      ·
       have g3' : ¬ (1 : Int) < (k : Int) := by omega
       have HG : Hid (good k t) := ⟨g1, g2, Or.inl g3⟩
       clear g3
       go_wp2_with fail
       go_loop [6, 7] (fun n i => ∃ a : Nat, a ≤ k ∧ i = .int .i64 a ∧ n = .int .u64 (rd (t.take a))) (fun _ i => k - (intOf i).toNat)
       case atStart => exact ⟨0, by omega, rfl, rfl⟩
       case round =>
        obtain ⟨a, hak, rfl, rfl⟩ := hrel
        by_cases hlt1 : a < k
        ·
         have hat : a < t.length := by omega
         have hbk1 := ba_lt hat
         obtain ⟨hc1, hc2⟩ := dgs_at hk HD.out hlt1
         have hr0 := rd_bound hk HD.out hak
         have hr : rd (t.take a) < 10000000000000 := by have := ten13 (show a ≤ 13 by omega); omega
         have HS : Hid _ := rd_next hat
         clear hr0
         generalize rd (t.take a) = r at *
         go_wp2_with fail
         go_round
         case rel => exact ⟨a + 1, by omega, by go_num, by rw [HS.out]; go_num⟩
         case measure => simp [intOf]; omega
        ·
         obtain rfl : a = k := by omega
         have hr0 := rd_bound hk HD.out hak
         have hr : rd (t.take a) < 10000000000000 := by have := ten13 (show a ≤ 13 by omega); omega
         clear hr0
         by_cases hR : a < t.length
         ·
          have hR' : (a : Int) < (t.length : Int) := by omega
          have hbk2 := ba_lt hR
          have td := ba_drop t (a + 1)
          go_wp2_with fail
          clear td
          have hrl1 : (t.drop (a + 1)).length + (a + 1) ≤ t.length := by rw [List.length_drop]; omega
          have hrl2 : t.length ≤ (t.drop (a + 1)).length + (a + 1) := by rw [List.length_drop]; omega
          refine (rdig_any (t.drop (a + 1)) _ (by omega)).mono ?_
          rintro e w1 ⟨⟨j, hj, hd2, he2, rfl⟩, rfl⟩
          have HD2 : Hid _ := hd2
          have HE2 : Hid _ := he2
          clear hd2 he2
          by_cases p1 : (((⟨t.toArray⟩ : ByteArray)[a]'hbk2).toNat : Int) = 46
          ·
           have P46 : Hid (t[a] = 46) := UInt8.toNat_inj.1 (by show t[a].toNat = 46; have : (t[a].toNat : Int) = 46 := p1; omega)
           by_cases p2 : 1 ≤ j ∧ j ≤ 6 ∧ a + 1 + j = t.length
           ·
            obtain ⟨q1, q2, q3⟩ := p2
            have q1' : ¬ (j : Int) < 1 := by omega
            have q2' : ¬ (6 : Int) < (j : Int) := by omega
            have q3' : ((a : Int) + 1 + (j : Int) != (t.length : Int)) = false := by rw [bne_eq_false_iff_eq]; omega
            have HJR : Hid (j = (t.drop (a + 1)).length) := by show j = _; omega
            have HDR : Hid (dgs (t.drop (a + 1)) = true) := by
             have := HD2.out
             rw [HJR.out, List.take_of_length_le (Nat.le_refl _)] at this
             exact this
            have Hres : Hid _ := gP_good (m := true) hR HD.out P46.out HG.out (digits_six HDR.out (by omega) (by omega))
            go_wp2_with fail
            go_loop [8, 10] (fun f i => ∃ b : Nat, b ≤ 6 ∧ i = .int .i64 b ∧ f = .int .u64 (fr (t.drop (a + 1)) b)) (fun _ i => 6 - (intOf i).toNat)
            case atStart => exact ⟨0, by omega, rfl, by rw [fr_zero]; rfl⟩
            case round =>
             obtain ⟨b, hb6, rfl, rfl⟩ := hrel
             have hfl := fr_lt HDR.out b
             by_cases hb : b < 6
             ·
              have hfl' : fr (t.drop (a + 1)) b < 1000000 := Nat.lt_of_lt_of_le hfl (ten6 hb6)
              clear hfl
              by_cases hbj : b < j
              ·
               have hbr : b < (t.drop (a + 1)).length := by omega
               have hat2 : a + 1 + b < t.length := by omega
               have hbk3 := ba_lt hat2
               obtain ⟨hc1, hc2⟩ := dgs_off HDR.out hbr hat2
               have HS : Hid _ := fr_in hbr hat2
               have hbj' : (b : Int) < (j : Int) := by omega
               generalize fr (t.drop (a + 1)) b = N at *
               go_wp2_with fail
               go_round
               case rel => exact ⟨b + 1, by omega, by go_num, by rw [HS.out]; go_num⟩
               case measure => simp [intOf]; omega
              ·
               have HS : Hid _ := fr_out (r := t.drop (a + 1)) (b := b) (by omega)
               have hbj' : ¬ (b : Int) < (j : Int) := by omega
               generalize fr (t.drop (a + 1)) b = N at *
               go_wp2_with fail
               go_round
               case rel => exact ⟨b + 1, by omega, by go_num, by rw [HS.out]; go_num⟩
               case measure => simp [intOf]; omega
             ·
              obtain rfl : b = 6 := by omega
              have hfl' : fr (t.drop (a + 1)) 6 < 1000000 := hfl
              clear hfl
              have HS : Hid _ := fr_six (r := t.drop (a + 1)) (by omega)
              generalize rd (t.take a) = r at *
              generalize fr (t.drop (a + 1)) 6 = N at *
              have ew : IntKind.u64.wrap ((r : Int) * 1000000) = ((r * 1000000 : Nat) : Int) := by rw [IntKind.wrap_u64]; omega
              have ew2 : IntKind.u64.wrap (((r * 1000000 : Nat) : Int) + (N : Int)) = ((r * 1000000 + N : Nat) : Int) := by rw [IntKind.wrap_u64]; omega
              have ew3 : IntKind.u64.wrap ((r : Int) * 1000000 + (N : Int)) = ((r * 1000000 + N : Nat) : Int) := by rw [IntKind.wrap_u64]; omega
              have hs52 := fun W => rsigned_any true (r * 1000000 + N) W (by omega)
              generalize hNN : r * 1000000 + N = M at *
              have HNN : Hid _ := hNN
              clear hNN
              go_wp2_with fail
              refine (hs52 _).mono ?_
              rintro e w2 ⟨rfl, hb2⟩
              obtain ⟨c0, c1, f0, f1⟩ := hx.later hb2
              go_wp2
              exact bodyPost_ret (v := .tuple #[.agg #[.bool (ov (sgn true M)), .int .i64 (nn (sgn true M))], .bool true]) (by simp [results, Tryz.results169, go_sem, c0, c1]) rfl ⟨by rw [Hres.out, ← HS.out, HNN.out]; rfl, put2 (Below.chain hb0 hb2) (by omega) _ _⟩
           ·
            have hfd : fDigits (t.drop (a + 1)) 6 = false := no_digits HE2.out (by omega)
            have hno : gP true t = none := gP_bad hR HD.out P46.out hfd
            have HN : Hid _ := hno
            clear hno
            obtain ⟨c0, c1, f0, f1⟩ := id hx
            by_cases q1 : 1 ≤ j
            ·
             have q1' : ¬ (j : Int) < 1 := by omega
             by_cases q2 : j ≤ 6
             ·
              have q2' : ¬ (6 : Int) < (j : Int) := by omega
              have q3' : ((a : Int) + 1 + (j : Int) != (t.length : Int)) = true := by rw [bne_iff_ne]; omega
              go_wp2_with fail
              exact bodyPost_ret (v := .tuple #[.agg #[.bool false, .int .i64 0], .bool false]) (by simp [results, Tryz.results169, go_sem, c0, c1]) rfl ⟨by rw [HN.out]; rfl, hb0⟩
             ·
              have q2' : (6 : Int) < (j : Int) := by omega
              go_wp2_with fail
              exact bodyPost_ret (v := .tuple #[.agg #[.bool false, .int .i64 0], .bool false]) (by simp [results, Tryz.results169, go_sem, c0, c1]) rfl ⟨by rw [HN.out]; rfl, hb0⟩
            ·
             have q1' : (j : Int) < 1 := by omega
             go_wp2_with fail
             exact bodyPost_ret (v := .tuple #[.agg #[.bool false, .int .i64 0], .bool false]) (by simp [results, Tryz.results169, go_sem, c0, c1]) rfl ⟨by rw [HN.out]; rfl, hb0⟩
          ·
           have hno : gP true t = none := gP_char hR HD.out (by rcases HE.out with h | ⟨h, h'⟩; (omega); exact h') (fun h => p1 (by show ((t[a].toNat : Nat) : Int) = 46; rw [h]; rfl))
           have HN : Hid _ := hno
           clear hno
           have p1' : ((((⟨t.toArray⟩ : ByteArray)[a]'hbk2).toNat : Int) == 46) = false := beq_eq_false_iff_ne.2 p1
           obtain ⟨c0, c1, f0, f1⟩ := id hx
           go_wp2_with fail
           exact bodyPost_ret (v := .tuple #[.agg #[.bool false, .int .i64 0], .bool false]) (by simp [results, Tryz.results169, go_sem, c0, c1]) rfl ⟨by rw [HN.out]; rfl, hb0⟩
         ·
          have hR' : ¬ (a : Int) < (t.length : Int) := by omega
          have E0 : Hid (a = t.length) := by show a = t.length; omega
          have hall : Hid _ := gP_all (m := true) (t := t) (by have := HD.out; rw [E0.out, List.take_of_length_le (Nat.le_refl _)] at this; exact this) (by rw [← E0.out]; exact HG.out)
          have e1 : rd (t.take a) = rd t := by rw [List.take_of_length_le (by omega)]
          rw [e1] at hr
          rw [e1]
          clear e1
          generalize rd t = r at *
          have ew : IntKind.u64.wrap ((r : Int) * 1000000) = ((r * 1000000 : Nat) : Int) := by rw [IntKind.wrap_u64]; omega
          have ew2 : IntKind.u64.wrap ((r * 1000000 : Nat) : Int) = ((r * 1000000 : Nat) : Int) := by rw [IntKind.wrap_u64]; omega
          have hs52 := fun W => rsigned_any true (r * 1000000) W (by omega)
          generalize r * 1000000 = N at *
          go_wp2_with fail
          refine (hs52 _).mono ?_
          rintro e w2 ⟨rfl, hb2⟩
          obtain ⟨c0, c1, f0, f1⟩ := hx.later hb2
          go_wp2
          exact bodyPost_ret (v := .tuple #[.agg #[.bool (ov (sgn true N)), .int .i64 (nn (sgn true N))], .bool true]) (by simp [results, Tryz.results169, go_sem, c0, c1]) rfl ⟨by rw [hall.out]; rfl, put2 (Below.chain hb0 hb2) (by omega) _ _⟩
      ·
       have g3' : (1 : Int) < (k : Int) := by omega
       have ht0 : 0 < t.length := by omega
       have hbt := ba_lt ht0
       by_cases g4 : (((⟨t.toArray⟩ : ByteArray)[0]'hbt).toNat : Int) = 48
       ·
        have hno : gP true t = none := gP_no hk HD.out HE.out (fun h => by
         rcases h.2.2 with h | h
         ·
          omega
         ·
          exact h (head_is ht0 g4))
        have HN : Hid _ := hno
        clear hno
        obtain ⟨c0, c1, f0, f1⟩ := id hx
        go_wp2_with fail
        exact bodyPost_ret (v := .tuple #[.agg #[.bool false, .int .i64 0], .bool false]) (by simp [results, Tryz.results169, go_sem, c0, c1]) rfl ⟨by rw [HN.out]; rfl, hb0⟩
       ·
        have HG : Hid (good k t) := ⟨g1, g2, Or.inr (head_isnt ht0 g4)⟩
        have g4' : ((((⟨t.toArray⟩ : ByteArray)[0]'hbt).toNat : Int) == 48) = false := beq_eq_false_iff_ne.2 g4
        go_wp2_with fail
        go_loop [6, 7] (fun n i => ∃ a : Nat, a ≤ k ∧ i = .int .i64 a ∧ n = .int .u64 (rd (t.take a))) (fun _ i => k - (intOf i).toNat)
        case atStart => exact ⟨0, by omega, rfl, rfl⟩
        case round =>
         obtain ⟨a, hak, rfl, rfl⟩ := hrel
         by_cases hlt1 : a < k
         ·
          have hat : a < t.length := by omega
          have hbk1 := ba_lt hat
          obtain ⟨hc1, hc2⟩ := dgs_at hk HD.out hlt1
          have hr0 := rd_bound hk HD.out hak
          have hr : rd (t.take a) < 10000000000000 := by have := ten13 (show a ≤ 13 by omega); omega
          have HS : Hid _ := rd_next hat
          clear hr0
          generalize rd (t.take a) = r at *
          go_wp2_with fail
          go_round
          case rel => exact ⟨a + 1, by omega, by go_num, by rw [HS.out]; go_num⟩
          case measure => simp [intOf]; omega
         ·
          obtain rfl : a = k := by omega
          have hr0 := rd_bound hk HD.out hak
          have hr : rd (t.take a) < 10000000000000 := by have := ten13 (show a ≤ 13 by omega); omega
          clear hr0
          by_cases hR : a < t.length
          ·
           have hR' : (a : Int) < (t.length : Int) := by omega
           have hbk2 := ba_lt hR
           have td := ba_drop t (a + 1)
           go_wp2_with fail
           clear td
           have hrl1 : (t.drop (a + 1)).length + (a + 1) ≤ t.length := by rw [List.length_drop]; omega
           have hrl2 : t.length ≤ (t.drop (a + 1)).length + (a + 1) := by rw [List.length_drop]; omega
           refine (rdig_any (t.drop (a + 1)) _ (by omega)).mono ?_
           rintro e w1 ⟨⟨j, hj, hd2, he2, rfl⟩, rfl⟩
           have HD2 : Hid _ := hd2
           have HE2 : Hid _ := he2
           clear hd2 he2
           by_cases p1 : (((⟨t.toArray⟩ : ByteArray)[a]'hbk2).toNat : Int) = 46
           ·
            have P46 : Hid (t[a] = 46) := UInt8.toNat_inj.1 (by show t[a].toNat = 46; have : (t[a].toNat : Int) = 46 := p1; omega)
            by_cases p2 : 1 ≤ j ∧ j ≤ 6 ∧ a + 1 + j = t.length
            ·
             obtain ⟨q1, q2, q3⟩ := p2
             have q1' : ¬ (j : Int) < 1 := by omega
             have q2' : ¬ (6 : Int) < (j : Int) := by omega
             have q3' : ((a : Int) + 1 + (j : Int) != (t.length : Int)) = false := by rw [bne_eq_false_iff_eq]; omega
             have HJR : Hid (j = (t.drop (a + 1)).length) := by show j = _; omega
             have HDR : Hid (dgs (t.drop (a + 1)) = true) := by
              have := HD2.out
              rw [HJR.out, List.take_of_length_le (Nat.le_refl _)] at this
              exact this
             have Hres : Hid _ := gP_good (m := true) hR HD.out P46.out HG.out (digits_six HDR.out (by omega) (by omega))
             go_wp2_with fail
             go_loop [8, 10] (fun f i => ∃ b : Nat, b ≤ 6 ∧ i = .int .i64 b ∧ f = .int .u64 (fr (t.drop (a + 1)) b)) (fun _ i => 6 - (intOf i).toNat)
             case atStart => exact ⟨0, by omega, rfl, by rw [fr_zero]; rfl⟩
             case round =>
              obtain ⟨b, hb6, rfl, rfl⟩ := hrel
              have hfl := fr_lt HDR.out b
              by_cases hb : b < 6
              ·
               have hfl' : fr (t.drop (a + 1)) b < 1000000 := Nat.lt_of_lt_of_le hfl (ten6 hb6)
               clear hfl
               by_cases hbj : b < j
               ·
                have hbr : b < (t.drop (a + 1)).length := by omega
                have hat2 : a + 1 + b < t.length := by omega
                have hbk3 := ba_lt hat2
                obtain ⟨hc1, hc2⟩ := dgs_off HDR.out hbr hat2
                have HS : Hid _ := fr_in hbr hat2
                have hbj' : (b : Int) < (j : Int) := by omega
                generalize fr (t.drop (a + 1)) b = N at *
                go_wp2_with fail
                go_round
                case rel => exact ⟨b + 1, by omega, by go_num, by rw [HS.out]; go_num⟩
                case measure => simp [intOf]; omega
               ·
                have HS : Hid _ := fr_out (r := t.drop (a + 1)) (b := b) (by omega)
                have hbj' : ¬ (b : Int) < (j : Int) := by omega
                generalize fr (t.drop (a + 1)) b = N at *
                go_wp2_with fail
                go_round
                case rel => exact ⟨b + 1, by omega, by go_num, by rw [HS.out]; go_num⟩
                case measure => simp [intOf]; omega
              ·
               obtain rfl : b = 6 := by omega
               have hfl' : fr (t.drop (a + 1)) 6 < 1000000 := hfl
               clear hfl
               have HS : Hid _ := fr_six (r := t.drop (a + 1)) (by omega)
               generalize rd (t.take a) = r at *
               generalize fr (t.drop (a + 1)) 6 = N at *
               have ew : IntKind.u64.wrap ((r : Int) * 1000000) = ((r * 1000000 : Nat) : Int) := by rw [IntKind.wrap_u64]; omega
               have ew2 : IntKind.u64.wrap (((r * 1000000 : Nat) : Int) + (N : Int)) = ((r * 1000000 + N : Nat) : Int) := by rw [IntKind.wrap_u64]; omega
               have ew3 : IntKind.u64.wrap ((r : Int) * 1000000 + (N : Int)) = ((r * 1000000 + N : Nat) : Int) := by rw [IntKind.wrap_u64]; omega
               have hs52 := fun W => rsigned_any true (r * 1000000 + N) W (by omega)
               generalize hNN : r * 1000000 + N = M at *
               have HNN : Hid _ := hNN
               clear hNN
               go_wp2_with fail
               refine (hs52 _).mono ?_
               rintro e w2 ⟨rfl, hb2⟩
               obtain ⟨c0, c1, f0, f1⟩ := hx.later hb2
               go_wp2
               exact bodyPost_ret (v := .tuple #[.agg #[.bool (ov (sgn true M)), .int .i64 (nn (sgn true M))], .bool true]) (by simp [results, Tryz.results169, go_sem, c0, c1]) rfl ⟨by rw [Hres.out, ← HS.out, HNN.out]; rfl, put2 (Below.chain hb0 hb2) (by omega) _ _⟩
            ·
             have hfd : fDigits (t.drop (a + 1)) 6 = false := no_digits HE2.out (by omega)
             have hno : gP true t = none := gP_bad hR HD.out P46.out hfd
             have HN : Hid _ := hno
             clear hno
             obtain ⟨c0, c1, f0, f1⟩ := id hx
             by_cases q1 : 1 ≤ j
             ·
              have q1' : ¬ (j : Int) < 1 := by omega
              by_cases q2 : j ≤ 6
              ·
               have q2' : ¬ (6 : Int) < (j : Int) := by omega
               have q3' : ((a : Int) + 1 + (j : Int) != (t.length : Int)) = true := by rw [bne_iff_ne]; omega
               go_wp2_with fail
               exact bodyPost_ret (v := .tuple #[.agg #[.bool false, .int .i64 0], .bool false]) (by simp [results, Tryz.results169, go_sem, c0, c1]) rfl ⟨by rw [HN.out]; rfl, hb0⟩
              ·
               have q2' : (6 : Int) < (j : Int) := by omega
               go_wp2_with fail
               exact bodyPost_ret (v := .tuple #[.agg #[.bool false, .int .i64 0], .bool false]) (by simp [results, Tryz.results169, go_sem, c0, c1]) rfl ⟨by rw [HN.out]; rfl, hb0⟩
             ·
              have q1' : (j : Int) < 1 := by omega
              go_wp2_with fail
              exact bodyPost_ret (v := .tuple #[.agg #[.bool false, .int .i64 0], .bool false]) (by simp [results, Tryz.results169, go_sem, c0, c1]) rfl ⟨by rw [HN.out]; rfl, hb0⟩
           ·
            have hno : gP true t = none := gP_char hR HD.out (by rcases HE.out with h | ⟨h, h'⟩; (omega); exact h') (fun h => p1 (by show ((t[a].toNat : Nat) : Int) = 46; rw [h]; rfl))
            have HN : Hid _ := hno
            clear hno
            have p1' : ((((⟨t.toArray⟩ : ByteArray)[a]'hbk2).toNat : Int) == 46) = false := beq_eq_false_iff_ne.2 p1
            obtain ⟨c0, c1, f0, f1⟩ := id hx
            go_wp2_with fail
            exact bodyPost_ret (v := .tuple #[.agg #[.bool false, .int .i64 0], .bool false]) (by simp [results, Tryz.results169, go_sem, c0, c1]) rfl ⟨by rw [HN.out]; rfl, hb0⟩
          ·
           have hR' : ¬ (a : Int) < (t.length : Int) := by omega
           have E0 : Hid (a = t.length) := by show a = t.length; omega
           have hall : Hid _ := gP_all (m := true) (t := t) (by have := HD.out; rw [E0.out, List.take_of_length_le (Nat.le_refl _)] at this; exact this) (by rw [← E0.out]; exact HG.out)
           have e1 : rd (t.take a) = rd t := by rw [List.take_of_length_le (by omega)]
           rw [e1] at hr
           rw [e1]
           clear e1
           generalize rd t = r at *
           have ew : IntKind.u64.wrap ((r : Int) * 1000000) = ((r * 1000000 : Nat) : Int) := by rw [IntKind.wrap_u64]; omega
           have ew2 : IntKind.u64.wrap ((r * 1000000 : Nat) : Int) = ((r * 1000000 : Nat) : Int) := by rw [IntKind.wrap_u64]; omega
           have hs52 := fun W => rsigned_any true (r * 1000000) W (by omega)
           generalize r * 1000000 = N at *
           go_wp2_with fail
           refine (hs52 _).mono ?_
           rintro e w2 ⟨rfl, hb2⟩
           obtain ⟨c0, c1, f0, f1⟩ := hx.later hb2
           go_wp2
           exact bodyPost_ret (v := .tuple #[.agg #[.bool (ov (sgn true N)), .int .i64 (nn (sgn true N))], .bool true]) (by simp [results, Tryz.results169, go_sem, c0, c1]) rfl ⟨by rw [hall.out]; rfl, put2 (Below.chain hb0 hb2) (by omega) _ _⟩
     ·
      have g1' : ¬ (k : Int) < 1 := by omega
      have g2' : (13 : Int) < (k : Int) := by omega
      have hno : gP true t = none := gP_no hk HD.out HE.out (fun h => g2 h.2.1)
      have HN : Hid _ := hno
      clear hno
      obtain ⟨c0, c1, f0, f1⟩ := id hx
      go_wp2_with fail
      exact bodyPost_ret (v := .tuple #[.agg #[.bool false, .int .i64 0], .bool false]) (by simp [results, Tryz.results169, go_sem, c0, c1]) rfl ⟨by rw [HN.out]; rfl, hb0⟩
    ·
     have g1' : (k : Int) < 1 := by omega
     have hno : gP true t = none := gP_no hk HD.out HE.out (fun h => g1 h.1)
     have HN : Hid _ := hno
     clear hno
     obtain ⟨c0, c1, f0, f1⟩ := id hx
     go_wp2_with fail
     exact bodyPost_ret (v := .tuple #[.agg #[.bool false, .int .i64 0], .bool false]) (by simp [results, Tryz.results169, go_sem, c0, c1]) rfl ⟨by rw [HN.out]; rfl, hb0⟩
   ·
    obtain ⟨hm, ht⟩ := minus_false h0 h3
    rw [hm, ht]
    clear hm ht ho
    have h0' : (0 : Int) < l.length := by omega
    have hlt := hl
    obtain ⟨t, rfl⟩ : ∃ t, t = l := ⟨l, rfl⟩
    go_enter Tryz.func169, Tryz.ntmps169
    go_wp2_with fail
    refine (rdig_any t _ hlt).mono ?_
    rintro e w1 ⟨⟨k, hk, hd, he, rfl⟩, rfl⟩
    have HD : Hid _ := hd
    have HE : Hid _ := he
    clear hd he
    by_cases g1 : 1 ≤ k
    ·
     by_cases g2 : k ≤ 13
     ·
      have g1' : ¬ (k : Int) < 1 := by omega
      have g2' : ¬ (13 : Int) < (k : Int) := by omega
      by_cases g3 : k = 1
      ·
       have g3' : ¬ (1 : Int) < (k : Int) := by omega
       have HG : Hid (good k t) := ⟨g1, g2, Or.inl g3⟩
       clear g3
       go_wp2_with fail
       go_loop [6, 7] (fun n i => ∃ a : Nat, a ≤ k ∧ i = .int .i64 a ∧ n = .int .u64 (rd (t.take a))) (fun _ i => k - (intOf i).toNat)
       case atStart => exact ⟨0, by omega, rfl, rfl⟩
       case round =>
        obtain ⟨a, hak, rfl, rfl⟩ := hrel
        by_cases hlt1 : a < k
        ·
         have hat : a < t.length := by omega
         have hbk1 := ba_lt hat
         obtain ⟨hc1, hc2⟩ := dgs_at hk HD.out hlt1
         have hr0 := rd_bound hk HD.out hak
         have hr : rd (t.take a) < 10000000000000 := by have := ten13 (show a ≤ 13 by omega); omega
         have HS : Hid _ := rd_next hat
         clear hr0
         generalize rd (t.take a) = r at *
         go_wp2_with fail
         go_round
         case rel => exact ⟨a + 1, by omega, by go_num, by rw [HS.out]; go_num⟩
         case measure => simp [intOf]; omega
        ·
         obtain rfl : a = k := by omega
         have hr0 := rd_bound hk HD.out hak
         have hr : rd (t.take a) < 10000000000000 := by have := ten13 (show a ≤ 13 by omega); omega
         clear hr0
         by_cases hR : a < t.length
         ·
          have hR' : (a : Int) < (t.length : Int) := by omega
          have hbk2 := ba_lt hR
          have td := ba_drop t (a + 1)
          go_wp2_with fail
          clear td
          have hrl1 : (t.drop (a + 1)).length + (a + 1) ≤ t.length := by rw [List.length_drop]; omega
          have hrl2 : t.length ≤ (t.drop (a + 1)).length + (a + 1) := by rw [List.length_drop]; omega
          refine (rdig_any (t.drop (a + 1)) _ (by omega)).mono ?_
          rintro e w1 ⟨⟨j, hj, hd2, he2, rfl⟩, rfl⟩
          have HD2 : Hid _ := hd2
          have HE2 : Hid _ := he2
          clear hd2 he2
          by_cases p1 : (((⟨t.toArray⟩ : ByteArray)[a]'hbk2).toNat : Int) = 46
          ·
           have P46 : Hid (t[a] = 46) := UInt8.toNat_inj.1 (by show t[a].toNat = 46; have : (t[a].toNat : Int) = 46 := p1; omega)
           by_cases p2 : 1 ≤ j ∧ j ≤ 6 ∧ a + 1 + j = t.length
           ·
            obtain ⟨q1, q2, q3⟩ := p2
            have q1' : ¬ (j : Int) < 1 := by omega
            have q2' : ¬ (6 : Int) < (j : Int) := by omega
            have q3' : ((a : Int) + 1 + (j : Int) != (t.length : Int)) = false := by rw [bne_eq_false_iff_eq]; omega
            have HJR : Hid (j = (t.drop (a + 1)).length) := by show j = _; omega
            have HDR : Hid (dgs (t.drop (a + 1)) = true) := by
             have := HD2.out
             rw [HJR.out, List.take_of_length_le (Nat.le_refl _)] at this
             exact this
            have Hres : Hid _ := gP_good (m := false) hR HD.out P46.out HG.out (digits_six HDR.out (by omega) (by omega))
            go_wp2_with fail
            go_loop [8, 10] (fun f i => ∃ b : Nat, b ≤ 6 ∧ i = .int .i64 b ∧ f = .int .u64 (fr (t.drop (a + 1)) b)) (fun _ i => 6 - (intOf i).toNat)
            case atStart => exact ⟨0, by omega, rfl, by rw [fr_zero]; rfl⟩
            case round =>
             obtain ⟨b, hb6, rfl, rfl⟩ := hrel
             have hfl := fr_lt HDR.out b
             by_cases hb : b < 6
             ·
              have hfl' : fr (t.drop (a + 1)) b < 1000000 := Nat.lt_of_lt_of_le hfl (ten6 hb6)
              clear hfl
              by_cases hbj : b < j
              ·
               have hbr : b < (t.drop (a + 1)).length := by omega
               have hat2 : a + 1 + b < t.length := by omega
               have hbk3 := ba_lt hat2
               obtain ⟨hc1, hc2⟩ := dgs_off HDR.out hbr hat2
               have HS : Hid _ := fr_in hbr hat2
               have hbj' : (b : Int) < (j : Int) := by omega
               generalize fr (t.drop (a + 1)) b = N at *
               go_wp2_with fail
               go_round
               case rel => exact ⟨b + 1, by omega, by go_num, by rw [HS.out]; go_num⟩
               case measure => simp [intOf]; omega
              ·
               have HS : Hid _ := fr_out (r := t.drop (a + 1)) (b := b) (by omega)
               have hbj' : ¬ (b : Int) < (j : Int) := by omega
               generalize fr (t.drop (a + 1)) b = N at *
               go_wp2_with fail
               go_round
               case rel => exact ⟨b + 1, by omega, by go_num, by rw [HS.out]; go_num⟩
               case measure => simp [intOf]; omega
             ·
              obtain rfl : b = 6 := by omega
              have hfl' : fr (t.drop (a + 1)) 6 < 1000000 := hfl
              clear hfl
              have HS : Hid _ := fr_six (r := t.drop (a + 1)) (by omega)
              generalize rd (t.take a) = r at *
              generalize fr (t.drop (a + 1)) 6 = N at *
              have ew : IntKind.u64.wrap ((r : Int) * 1000000) = ((r * 1000000 : Nat) : Int) := by rw [IntKind.wrap_u64]; omega
              have ew2 : IntKind.u64.wrap (((r * 1000000 : Nat) : Int) + (N : Int)) = ((r * 1000000 + N : Nat) : Int) := by rw [IntKind.wrap_u64]; omega
              have ew3 : IntKind.u64.wrap ((r : Int) * 1000000 + (N : Int)) = ((r * 1000000 + N : Nat) : Int) := by rw [IntKind.wrap_u64]; omega
              have hs52 := fun W => rsigned_any false (r * 1000000 + N) W (by omega)
              generalize hNN : r * 1000000 + N = M at *
              have HNN : Hid _ := hNN
              clear hNN
              go_wp2_with fail
              refine (hs52 _).mono ?_
              rintro e w2 ⟨rfl, hb2⟩
              obtain ⟨c0, c1, f0, f1⟩ := hx.later hb2
              go_wp2
              exact bodyPost_ret (v := .tuple #[.agg #[.bool (ov (sgn false M)), .int .i64 (nn (sgn false M))], .bool true]) (by simp [results, Tryz.results169, go_sem, c0, c1]) rfl ⟨by rw [Hres.out, ← HS.out, HNN.out]; rfl, put2 (Below.chain hb0 hb2) (by omega) _ _⟩
           ·
            have hfd : fDigits (t.drop (a + 1)) 6 = false := no_digits HE2.out (by omega)
            have hno : gP false t = none := gP_bad hR HD.out P46.out hfd
            have HN : Hid _ := hno
            clear hno
            obtain ⟨c0, c1, f0, f1⟩ := id hx
            by_cases q1 : 1 ≤ j
            ·
             have q1' : ¬ (j : Int) < 1 := by omega
             by_cases q2 : j ≤ 6
             ·
              have q2' : ¬ (6 : Int) < (j : Int) := by omega
              have q3' : ((a : Int) + 1 + (j : Int) != (t.length : Int)) = true := by rw [bne_iff_ne]; omega
              go_wp2_with fail
              exact bodyPost_ret (v := .tuple #[.agg #[.bool false, .int .i64 0], .bool false]) (by simp [results, Tryz.results169, go_sem, c0, c1]) rfl ⟨by rw [HN.out]; rfl, hb0⟩
             ·
              have q2' : (6 : Int) < (j : Int) := by omega
              go_wp2_with fail
              exact bodyPost_ret (v := .tuple #[.agg #[.bool false, .int .i64 0], .bool false]) (by simp [results, Tryz.results169, go_sem, c0, c1]) rfl ⟨by rw [HN.out]; rfl, hb0⟩
            ·
             have q1' : (j : Int) < 1 := by omega
             go_wp2_with fail
             exact bodyPost_ret (v := .tuple #[.agg #[.bool false, .int .i64 0], .bool false]) (by simp [results, Tryz.results169, go_sem, c0, c1]) rfl ⟨by rw [HN.out]; rfl, hb0⟩
          ·
           have hno : gP false t = none := gP_char hR HD.out (by rcases HE.out with h | ⟨h, h'⟩; (omega); exact h') (fun h => p1 (by show ((t[a].toNat : Nat) : Int) = 46; rw [h]; rfl))
           have HN : Hid _ := hno
           clear hno
           have p1' : ((((⟨t.toArray⟩ : ByteArray)[a]'hbk2).toNat : Int) == 46) = false := beq_eq_false_iff_ne.2 p1
           obtain ⟨c0, c1, f0, f1⟩ := id hx
           go_wp2_with fail
           exact bodyPost_ret (v := .tuple #[.agg #[.bool false, .int .i64 0], .bool false]) (by simp [results, Tryz.results169, go_sem, c0, c1]) rfl ⟨by rw [HN.out]; rfl, hb0⟩
         ·
          have hR' : ¬ (a : Int) < (t.length : Int) := by omega
          have E0 : Hid (a = t.length) := by show a = t.length; omega
          have hall : Hid _ := gP_all (m := false) (t := t) (by have := HD.out; rw [E0.out, List.take_of_length_le (Nat.le_refl _)] at this; exact this) (by rw [← E0.out]; exact HG.out)
          have e1 : rd (t.take a) = rd t := by rw [List.take_of_length_le (by omega)]
          rw [e1] at hr
          rw [e1]
          clear e1
          generalize rd t = r at *
          have ew : IntKind.u64.wrap ((r : Int) * 1000000) = ((r * 1000000 : Nat) : Int) := by rw [IntKind.wrap_u64]; omega
          have ew2 : IntKind.u64.wrap ((r * 1000000 : Nat) : Int) = ((r * 1000000 : Nat) : Int) := by rw [IntKind.wrap_u64]; omega
          have hs52 := fun W => rsigned_any false (r * 1000000) W (by omega)
          generalize r * 1000000 = N at *
          go_wp2_with fail
          refine (hs52 _).mono ?_
          rintro e w2 ⟨rfl, hb2⟩
          obtain ⟨c0, c1, f0, f1⟩ := hx.later hb2
          go_wp2
          exact bodyPost_ret (v := .tuple #[.agg #[.bool (ov (sgn false N)), .int .i64 (nn (sgn false N))], .bool true]) (by simp [results, Tryz.results169, go_sem, c0, c1]) rfl ⟨by rw [hall.out]; rfl, put2 (Below.chain hb0 hb2) (by omega) _ _⟩
      ·
       have g3' : (1 : Int) < (k : Int) := by omega
       have ht0 : 0 < t.length := by omega
       have hbt := ba_lt ht0
       by_cases g4 : (((⟨t.toArray⟩ : ByteArray)[0]'hbt).toNat : Int) = 48
       ·
        have hno : gP false t = none := gP_no hk HD.out HE.out (fun h => by
         rcases h.2.2 with h | h
         ·
          omega
         ·
          exact h (head_is ht0 g4))
        have HN : Hid _ := hno
        clear hno
        obtain ⟨c0, c1, f0, f1⟩ := id hx
        go_wp2_with fail
        exact bodyPost_ret (v := .tuple #[.agg #[.bool false, .int .i64 0], .bool false]) (by simp [results, Tryz.results169, go_sem, c0, c1]) rfl ⟨by rw [HN.out]; rfl, hb0⟩
       ·
        have HG : Hid (good k t) := ⟨g1, g2, Or.inr (head_isnt ht0 g4)⟩
        have g4' : ((((⟨t.toArray⟩ : ByteArray)[0]'hbt).toNat : Int) == 48) = false := beq_eq_false_iff_ne.2 g4
        go_wp2_with fail
        go_loop [6, 7] (fun n i => ∃ a : Nat, a ≤ k ∧ i = .int .i64 a ∧ n = .int .u64 (rd (t.take a))) (fun _ i => k - (intOf i).toNat)
        case atStart => exact ⟨0, by omega, rfl, rfl⟩
        case round =>
         obtain ⟨a, hak, rfl, rfl⟩ := hrel
         by_cases hlt1 : a < k
         ·
          have hat : a < t.length := by omega
          have hbk1 := ba_lt hat
          obtain ⟨hc1, hc2⟩ := dgs_at hk HD.out hlt1
          have hr0 := rd_bound hk HD.out hak
          have hr : rd (t.take a) < 10000000000000 := by have := ten13 (show a ≤ 13 by omega); omega
          have HS : Hid _ := rd_next hat
          clear hr0
          generalize rd (t.take a) = r at *
          go_wp2_with fail
          go_round
          case rel => exact ⟨a + 1, by omega, by go_num, by rw [HS.out]; go_num⟩
          case measure => simp [intOf]; omega
         ·
          obtain rfl : a = k := by omega
          have hr0 := rd_bound hk HD.out hak
          have hr : rd (t.take a) < 10000000000000 := by have := ten13 (show a ≤ 13 by omega); omega
          clear hr0
          by_cases hR : a < t.length
          ·
           have hR' : (a : Int) < (t.length : Int) := by omega
           have hbk2 := ba_lt hR
           have td := ba_drop t (a + 1)
           go_wp2_with fail
           clear td
           have hrl1 : (t.drop (a + 1)).length + (a + 1) ≤ t.length := by rw [List.length_drop]; omega
           have hrl2 : t.length ≤ (t.drop (a + 1)).length + (a + 1) := by rw [List.length_drop]; omega
           refine (rdig_any (t.drop (a + 1)) _ (by omega)).mono ?_
           rintro e w1 ⟨⟨j, hj, hd2, he2, rfl⟩, rfl⟩
           have HD2 : Hid _ := hd2
           have HE2 : Hid _ := he2
           clear hd2 he2
           by_cases p1 : (((⟨t.toArray⟩ : ByteArray)[a]'hbk2).toNat : Int) = 46
           ·
            have P46 : Hid (t[a] = 46) := UInt8.toNat_inj.1 (by show t[a].toNat = 46; have : (t[a].toNat : Int) = 46 := p1; omega)
            by_cases p2 : 1 ≤ j ∧ j ≤ 6 ∧ a + 1 + j = t.length
            ·
             obtain ⟨q1, q2, q3⟩ := p2
             have q1' : ¬ (j : Int) < 1 := by omega
             have q2' : ¬ (6 : Int) < (j : Int) := by omega
             have q3' : ((a : Int) + 1 + (j : Int) != (t.length : Int)) = false := by rw [bne_eq_false_iff_eq]; omega
             have HJR : Hid (j = (t.drop (a + 1)).length) := by show j = _; omega
             have HDR : Hid (dgs (t.drop (a + 1)) = true) := by
              have := HD2.out
              rw [HJR.out, List.take_of_length_le (Nat.le_refl _)] at this
              exact this
             have Hres : Hid _ := gP_good (m := false) hR HD.out P46.out HG.out (digits_six HDR.out (by omega) (by omega))
             go_wp2_with fail
             go_loop [8, 10] (fun f i => ∃ b : Nat, b ≤ 6 ∧ i = .int .i64 b ∧ f = .int .u64 (fr (t.drop (a + 1)) b)) (fun _ i => 6 - (intOf i).toNat)
             case atStart => exact ⟨0, by omega, rfl, by rw [fr_zero]; rfl⟩
             case round =>
              obtain ⟨b, hb6, rfl, rfl⟩ := hrel
              have hfl := fr_lt HDR.out b
              by_cases hb : b < 6
              ·
               have hfl' : fr (t.drop (a + 1)) b < 1000000 := Nat.lt_of_lt_of_le hfl (ten6 hb6)
               clear hfl
               by_cases hbj : b < j
               ·
                have hbr : b < (t.drop (a + 1)).length := by omega
                have hat2 : a + 1 + b < t.length := by omega
                have hbk3 := ba_lt hat2
                obtain ⟨hc1, hc2⟩ := dgs_off HDR.out hbr hat2
                have HS : Hid _ := fr_in hbr hat2
                have hbj' : (b : Int) < (j : Int) := by omega
                generalize fr (t.drop (a + 1)) b = N at *
                go_wp2_with fail
                go_round
                case rel => exact ⟨b + 1, by omega, by go_num, by rw [HS.out]; go_num⟩
                case measure => simp [intOf]; omega
               ·
                have HS : Hid _ := fr_out (r := t.drop (a + 1)) (b := b) (by omega)
                have hbj' : ¬ (b : Int) < (j : Int) := by omega
                generalize fr (t.drop (a + 1)) b = N at *
                go_wp2_with fail
                go_round
                case rel => exact ⟨b + 1, by omega, by go_num, by rw [HS.out]; go_num⟩
                case measure => simp [intOf]; omega
              ·
               obtain rfl : b = 6 := by omega
               have hfl' : fr (t.drop (a + 1)) 6 < 1000000 := hfl
               clear hfl
               have HS : Hid _ := fr_six (r := t.drop (a + 1)) (by omega)
               generalize rd (t.take a) = r at *
               generalize fr (t.drop (a + 1)) 6 = N at *
               have ew : IntKind.u64.wrap ((r : Int) * 1000000) = ((r * 1000000 : Nat) : Int) := by rw [IntKind.wrap_u64]; omega
               have ew2 : IntKind.u64.wrap (((r * 1000000 : Nat) : Int) + (N : Int)) = ((r * 1000000 + N : Nat) : Int) := by rw [IntKind.wrap_u64]; omega
               have ew3 : IntKind.u64.wrap ((r : Int) * 1000000 + (N : Int)) = ((r * 1000000 + N : Nat) : Int) := by rw [IntKind.wrap_u64]; omega
               have hs52 := fun W => rsigned_any false (r * 1000000 + N) W (by omega)
               generalize hNN : r * 1000000 + N = M at *
               have HNN : Hid _ := hNN
               clear hNN
               go_wp2_with fail
               refine (hs52 _).mono ?_
               rintro e w2 ⟨rfl, hb2⟩
               obtain ⟨c0, c1, f0, f1⟩ := hx.later hb2
               go_wp2
               exact bodyPost_ret (v := .tuple #[.agg #[.bool (ov (sgn false M)), .int .i64 (nn (sgn false M))], .bool true]) (by simp [results, Tryz.results169, go_sem, c0, c1]) rfl ⟨by rw [Hres.out, ← HS.out, HNN.out]; rfl, put2 (Below.chain hb0 hb2) (by omega) _ _⟩
            ·
             have hfd : fDigits (t.drop (a + 1)) 6 = false := no_digits HE2.out (by omega)
             have hno : gP false t = none := gP_bad hR HD.out P46.out hfd
             have HN : Hid _ := hno
             clear hno
             obtain ⟨c0, c1, f0, f1⟩ := id hx
             by_cases q1 : 1 ≤ j
             ·
              have q1' : ¬ (j : Int) < 1 := by omega
              by_cases q2 : j ≤ 6
              ·
               have q2' : ¬ (6 : Int) < (j : Int) := by omega
               have q3' : ((a : Int) + 1 + (j : Int) != (t.length : Int)) = true := by rw [bne_iff_ne]; omega
               go_wp2_with fail
               exact bodyPost_ret (v := .tuple #[.agg #[.bool false, .int .i64 0], .bool false]) (by simp [results, Tryz.results169, go_sem, c0, c1]) rfl ⟨by rw [HN.out]; rfl, hb0⟩
              ·
               have q2' : (6 : Int) < (j : Int) := by omega
               go_wp2_with fail
               exact bodyPost_ret (v := .tuple #[.agg #[.bool false, .int .i64 0], .bool false]) (by simp [results, Tryz.results169, go_sem, c0, c1]) rfl ⟨by rw [HN.out]; rfl, hb0⟩
             ·
              have q1' : (j : Int) < 1 := by omega
              go_wp2_with fail
              exact bodyPost_ret (v := .tuple #[.agg #[.bool false, .int .i64 0], .bool false]) (by simp [results, Tryz.results169, go_sem, c0, c1]) rfl ⟨by rw [HN.out]; rfl, hb0⟩
           ·
            have hno : gP false t = none := gP_char hR HD.out (by rcases HE.out with h | ⟨h, h'⟩; (omega); exact h') (fun h => p1 (by show ((t[a].toNat : Nat) : Int) = 46; rw [h]; rfl))
            have HN : Hid _ := hno
            clear hno
            have p1' : ((((⟨t.toArray⟩ : ByteArray)[a]'hbk2).toNat : Int) == 46) = false := beq_eq_false_iff_ne.2 p1
            obtain ⟨c0, c1, f0, f1⟩ := id hx
            go_wp2_with fail
            exact bodyPost_ret (v := .tuple #[.agg #[.bool false, .int .i64 0], .bool false]) (by simp [results, Tryz.results169, go_sem, c0, c1]) rfl ⟨by rw [HN.out]; rfl, hb0⟩
          ·
           have hR' : ¬ (a : Int) < (t.length : Int) := by omega
           have E0 : Hid (a = t.length) := by show a = t.length; omega
           have hall : Hid _ := gP_all (m := false) (t := t) (by have := HD.out; rw [E0.out, List.take_of_length_le (Nat.le_refl _)] at this; exact this) (by rw [← E0.out]; exact HG.out)
           have e1 : rd (t.take a) = rd t := by rw [List.take_of_length_le (by omega)]
           rw [e1] at hr
           rw [e1]
           clear e1
           generalize rd t = r at *
           have ew : IntKind.u64.wrap ((r : Int) * 1000000) = ((r * 1000000 : Nat) : Int) := by rw [IntKind.wrap_u64]; omega
           have ew2 : IntKind.u64.wrap ((r * 1000000 : Nat) : Int) = ((r * 1000000 : Nat) : Int) := by rw [IntKind.wrap_u64]; omega
           have hs52 := fun W => rsigned_any false (r * 1000000) W (by omega)
           generalize r * 1000000 = N at *
           go_wp2_with fail
           refine (hs52 _).mono ?_
           rintro e w2 ⟨rfl, hb2⟩
           obtain ⟨c0, c1, f0, f1⟩ := hx.later hb2
           go_wp2
           exact bodyPost_ret (v := .tuple #[.agg #[.bool (ov (sgn false N)), .int .i64 (nn (sgn false N))], .bool true]) (by simp [results, Tryz.results169, go_sem, c0, c1]) rfl ⟨by rw [hall.out]; rfl, put2 (Below.chain hb0 hb2) (by omega) _ _⟩
     ·
      have g1' : ¬ (k : Int) < 1 := by omega
      have g2' : (13 : Int) < (k : Int) := by omega
      have hno : gP false t = none := gP_no hk HD.out HE.out (fun h => g2 h.2.1)
      have HN : Hid _ := hno
      clear hno
      obtain ⟨c0, c1, f0, f1⟩ := id hx
      go_wp2_with fail
      exact bodyPost_ret (v := .tuple #[.agg #[.bool false, .int .i64 0], .bool false]) (by simp [results, Tryz.results169, go_sem, c0, c1]) rfl ⟨by rw [HN.out]; rfl, hb0⟩
    ·
     have g1' : (k : Int) < 1 := by omega
     have hno : gP false t = none := gP_no hk HD.out HE.out (fun h => g1 h.1)
     have HN : Hid _ := hno
     clear hno
     obtain ⟨c0, c1, f0, f1⟩ := id hx
     go_wp2_with fail
     exact bodyPost_ret (v := .tuple #[.agg #[.bool false, .int .i64 0], .bool false]) (by simp [results, Tryz.results169, go_sem, c0, c1]) rfl ⟨by rw [HN.out]; rfl, hb0⟩
  ·
   obtain rfl : l = [] := List.eq_nil_of_length_eq_zero (by omega)
   rw [minus_nil.1, minus_nil.2]
   have hno : gP false [] = none := rfl
   have HN : Hid _ := hno
   clear hno
   obtain ⟨c0, c1, f0, f1⟩ := id hx
   go_enter Tryz.func169, Tryz.ntmps169
   go_wp2_with fail
   refine (rdig_any [] _ (by decide)).mono ?_
   rintro e w1 ⟨⟨k, hk, hd, he, rfl⟩, rfl⟩
   obtain rfl : k = 0 := Nat.le_zero.1 hk
   clear hd he
   go_wp2_with fail
   exact bodyPost_ret (v := .tuple #[.agg #[.bool false, .int .i64 0], .bool false]) (by simp [results, Tryz.results169, go_sem, c0, c1]) rfl ⟨by rw [HN.out]; rfl, hb0⟩
end Go.Proofs.YteankdaegdhfiaaGreatDoor.Fx
namespace Go.Proofs.YteankdaegdhfiaaGreatDoor.Fx
open Go.RowKit
end Go.Proofs.YteankdaegdhfiaaGreatDoor.Fx
