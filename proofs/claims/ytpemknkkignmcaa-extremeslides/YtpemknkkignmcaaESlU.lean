/- ExtremeSlides: the walk, of rising values. -/
import Derived.Test.YtpemknkkignmcaaESlP
namespace Go.Proofs.Ytpemknkkignmcaa
open Go.RowKit

set_option maxRecDepth 20000 in
set_option maxHeartbeats 8000000 in
theorem slides_up (N M : Nat) (w : World) (hN : N ≤ 255) (hM : M ≤ 255) :
    Calls Try.prog 4 #[.int .u8 N, .int .u8 M, .bool false] w fun e w' => e = .returned (.bool true) ∧ Below w.heap.size w w' := by
  go_enter Try.func4, Try.ntmps4
  go_wp2_with fail
  refine (known_any _).mono ?_
  rintro e w1 ⟨rfl, hb1⟩
  go_wp2_with fail
  obtain ⟨k, hk⟩ : ∃ k : Nat, (k : Int) = (N : Int) % 50 + 1 := ⟨N % 50 + 1, by omega⟩
  have k1 : 1 ≤ k ∧ k ≤ 100 := by omega
  rw [← hk]
  have hck : clamp (k : Int) = k := by unfold clamp; rw [if_neg (by omega), if_neg (by omega)]
  refine (new_st (k : Int) true _).mono ?_
  rw [hck]
  rintro e w2 ⟨rfl, hs2, hb2⟩
  go_wp2_with fail
  rw [← hk]
  refine (new_st (k : Int) false _).mono ?_
  rw [hck]
  rintro e w3 ⟨rfl, ht3, hb3⟩
  have hs3 := hs2.later hb3
  have hbb : w.heap.size ≤ w1.heap.size := hb1.size
  have hcc : w.heap.size ≤ w2.heap.size := (Below.chain hb1 hb2).size
  have hbc : w1.heap.size ≠ w2.heap.size := by have := hs2.lt; omega
  have hb3' := Below.chain (Below.chain hb1 hb2) hb3
  clear hs2
  generalize w1.heap.size = b at *
  generalize w2.heap.size = c' at *
  clear hck hb1 hb2 hb3 hN
  go_wp2_with fail
  rw [← hk]
  clear hk
  go_loopw [10] (fun t wr => ∃ i : Nat, i ≤ M ∧ t = .int .i64 i ∧ St wr b (bl (vv false) k i) k ((i - 1 : Nat) : Int) true ∧ St wr c' (bl (vv false) k i) k ((i - 1 : Nat) : Int) false ∧ Below w.heap.size w wr) (fun t _ => M - (intOf t).toNat)
  case atStart => exact ⟨0, by omega, rfl, hs3, ht3, hb3'⟩
  case round =>
    obtain ⟨i, hi, rfl, hx, hy, hb⟩ := hrel
    by_cases hlt : i < M
    · have hd : decide ((i : Int) < (M : Int)) = true := decide_eq_true (by omega)
      have ho : onw ((i - 1 : Nat) : Int) i = i := onw_up (by omega) (by omega)
      have adx := adv_st b _ _ _ (i : Int) true wr hx
      have ady := fun W hW => adv_st c' _ _ _ (i : Int) false W (hW : St W c' (bl (vv false) k i) k ((i - 1 : Nat) : Int) false)
      rw [ho, bl_adv _ k i k1.1] at adx
      rw [ho, bl_adv _ k i k1.1] at ady
      have hE := bl_adE (vv false) k i k1.1
      have hL := bl_adL (vv false) k i k1.1 (by unfold vv; split <;> omega)
      have hof := of_vv false i (by omega)
      have hneg : wrap64 (-(i : Int)) = -(i : Int) := w64 (by omega) (by omega)
      have hvi : vv false i = (i : Int) := rfl
      have hrv : R64 (vv false i * 1000000) := by unfold vv R64; split <;> omega
      obtain ⟨c, hc⟩ : ∃ c, min (i + 1) k = c := ⟨_, rfl⟩
      obtain ⟨a, ha⟩ : ∃ a, i + 1 - c = a := ⟨_, rfl⟩
      have EN : Hid _ := bnum i k c a (by omega) k1 hc ha
      have SL : Hid _ := sl_all false k i c a (by omega) k1 hc ha
      have hai : a ≤ 1000 := by omega
      clear hc ha ho
      go_wp2_with fail
      refine adx.mono ?_
      rintro e w4 ⟨rfl, hx4, hg4⟩
      have hb4 := grown_above hb hg4 hb.size hbb
      have hy4 := hy.kept hg4 (by simp; omega)
      clear adx hg4 hb hx hy
      go_wp2_with fail
      refine (ady _ hy4).mono ?_
      rintro e w5 ⟨rfl, hy5, hg5⟩
      have hb5 := grown_above hb4 hg5 hb4.size hcc
      have hx5 := hx4.kept hg5 (by simp; omega)
      clear ady hg5 hb4 hx4 hy4
      rw [hvi] at hof
      go_wp2_with fail
      refine (hof _).mono ?_
      rintro e w6 ⟨rfl, hb6⟩
      have hx6 := hx5.later hb6
      have hy6 := hy5.later hb6
      have hb6' := Below.chain hb5 hb6
      clear hb5 hb6 hx5 hy5
      have ax := add_st b _ _ _ true ((i : Int), false, vv false i * 1000000) w6 hx6 hrv
      rw [hL, show ((i : Int), false, vv false i * 1000000).1 = (i : Int) from rfl, hE, hvi] at ax
      go_wp2_with fail
      refine ax.mono ?_
      rintro e w7 ⟨rfl, hx7, hg7⟩
      have hb7 := grown_above hb6' hg7 hb6'.size hbb
      have hy7 := hy6.kept hg7 (by simp; omega)
      clear ax hg7 hb6' hx6 hy6
      go_wp2_with fail
      refine (hof _).mono ?_
      rintro e w8 ⟨rfl, hb8⟩
      have hx8 := hx7.later hb8
      have hy8 := hy7.later hb8
      have hb8' := Below.chain hb7 hb8
      clear hb7 hb8 hx7 hy7
      have ay := add_st c' _ _ _ false ((i : Int), false, vv false i * 1000000) w8 hy8 hrv
      rw [hL, show ((i : Int), false, vv false i * 1000000).1 = (i : Int) from rfl, hE, hvi] at ay
      go_wp2_with fail
      refine ay.mono ?_
      rintro e w9 ⟨rfl, hy9, hg9⟩
      have hb9 := grown_above hb8' hg9 hb8'.size hcc
      have hx9 := hx8.kept hg9 (by simp; omega)
      clear ay hg9 hb8' hx8 hy8 hE hL hof
      have gx := get_st b _ _ _ true w9 hx9
      have gy := fun W hW => get_st c' _ _ _ false W (hW : St W c' (bl (vv false) k (i + 1)) k i false)
      have s1 := SL.out.1
      have s2 := SL.out.2.2.1
      have s3 := SL.out.2.2.2.2
      have KX : Hid ((thn (kg true) (bl (vv false) k (i + 1))).length = 1) := SL.out.2.1
      have KY : Hid ((thn (kg false) (bl (vv false) k (i + 1))).length = c) := SL.out.2.2.2.1
      rw [show bst true (bl (vv false) k (i + 1)) = _ from s1, s3] at gx
      rw [show bst false (bl (vv false) k (i + 1)) = _ from s2, s3] at gy
      clear s1 s2 s3 SL
      have hoi := of_vv false i (by omega)
      have hoa := of_vv false a (by omega)
      rw [show vv false i = (i : Int) from rfl] at gx hoi
      rw [show vv false a = (a : Int) from rfl] at gy hoa
      generalize (i : Int) * 1000000 = i6 at *
      generalize (a : Int) * 1000000 = a6 at *
      clear hneg hvi hrv
      obtain ⟨e1, e2, e3, e4, e5⟩ := EN.out
      go_wp2_with fail
      clear e1 e2 e3 e4 e5
      refine gx.mono ?_
      rintro e wa ⟨rfl, hba⟩
      have hxa := (hx9.later hba).later (bal (Below.refl _ _) (.cells #[.bool false, .int .i64 i6] 28))
      have hya := (hy9.later hba).later (bal (Below.refl _ _) (.cells #[.bool false, .int .i64 i6] 28))
      have hba' := bal (Below.chain hb9 hba) (.cells #[.bool false, .int .i64 i6] 28)
      have x13a := Box.new wa false i6
      have hA : w.heap.size ≤ wa.heap.size ∧ b < wa.heap.size ∧ c' < wa.heap.size := ⟨(Below.chain hb9 hba).size, (hx9.later hba).lt, (hy9.later hba).lt⟩
      clear gx hx9 hy9 hb9 hba
      go_wp2_with fail
      generalize wa.alloc (.cells #[.bool false, .int .i64 i6] 28) = wa2 at *
      generalize wa.heap.size = A at *
      refine (gy _ hya).mono ?_
      rintro e wb ⟨rfl, hbb2⟩
      have hx := (hxa.later hbb2).later (bal (Below.refl _ _) (.cells #[.bool false, .int .i64 a6] 28))
      have hy := (hya.later hbb2).later (bal (Below.refl _ _) (.cells #[.bool false, .int .i64 a6] 28))
      have hbz := bal (Below.chain hba' hbb2) (.cells #[.bool false, .int .i64 a6] 28)
      have x13 := (x13a.later hbb2).later (bal (Below.refl _ _) (.cells #[.bool false, .int .i64 a6] 28))
      have x15 := Box.new wb false a6
      have hAB : A ≠ wb.heap.size := by have := (x13a.later hbb2).lt; omega
      have hB : w.heap.size ≤ wb.heap.size ∧ b < wb.heap.size ∧ c' < wb.heap.size := ⟨(Below.chain hba' hbb2).size, (hxa.later hbb2).lt, (hya.later hbb2).lt⟩
      clear gy hxa hya hba' hbb2 x13a
      obtain ⟨m0, m1, l0, l1⟩ := id x13
      obtain ⟨m2, m3, l2, l3⟩ := id x15
      go_wp2_with fail
      generalize wb.alloc (.cells #[.bool false, .int .i64 a6] 28) = wz at *
      generalize wb.heap.size = B at *
      clear m0 m1 m2 m3 l0 l1 l2 l3
      go_wp2_with fail
      have hS0 : (fun W : World => Box W A false i6 ∧ Box W B false a6) _ := ⟨x13.later (Below.refl _ _).drew, x15.later (Below.refl _ _).drew⟩
      refine wp_region_noPanic ?_
      refine wp_region_held_drew (S := fun W : World => Box W A false i6 ∧ Box W B false a6) (by kernel_rfl) hS0 (fun _ => ?_)
      refine take_at 0 (some 85) (.agg #[.bool false, .int .i64 i6]) rfl rfl (by kernel_rfl) (by kernel_rfl) (by kernel_rfl) (fun _ _ _ h => h) (by rfl) (fun W hSw => by obtain ⟨⟨q0, q1, _, _⟩, ⟨q2, q3, _, _⟩⟩ := hSw; go_simp) hS0 ?_
      simp only [Act.put, List.setIfInBounds_toArray, List.set_cons_zero, List.set_cons_succ]
      refine take_at 1 (some 86) (.int .i64 i) rfl rfl (by kernel_rfl) (by kernel_rfl) (by kernel_rfl) (fun _ _ _ h => h) (by rfl) (fun W hSw => by obtain ⟨⟨q0, q1, _, _⟩, ⟨q2, q3, _, _⟩⟩ := hSw; go_simp) hS0 ?_
      simp only [Act.put, List.setIfInBounds_toArray, List.set_cons_zero, List.set_cons_succ]
      refine wpAnyH_ready (rs := [2]) (by kernel_rfl) (by simp) ?_
      refine AllReadyH.cons rfl (fun K hK => ?_) AllReadyH.nil
      go_simp
      refine (hoi _).mono ?_
      rintro e wp ⟨rfl, hbp⟩
      have x13p := (x13.later (Below.refl _ _).drew).later hbp
      have x15p := (x15.later (Below.refl _ _).drew).later hbp
      have hSp := (⟨x13p, x15p⟩ : (fun W : World => Box W A false i6 ∧ Box W B false a6) wp)
      refine hK.out _ _ hSp (fun _ => ?_)
      clear hK K
      refine take_at 3 (some 88) (.bool false) rfl rfl (by kernel_rfl) (by kernel_rfl) (by kernel_rfl) (fun _ _ _ h => h) (by rfl) (fun W hSw => by exact run_neq _ _ (.tmp 85) (.tmp 87) false i6 rfl (by kernel_rfl) (by kernel_rfl) W) hSp ?_
      simp only [Act.put, List.setIfInBounds_toArray, List.set_cons_zero, List.set_cons_succ]
      refine take_at 4 (some 89) (.bool false) rfl rfl (by kernel_rfl) (by kernel_rfl) (by kernel_rfl) (fun _ _ _ h => h) (by rfl) (fun W hSw => by obtain ⟨⟨q0, q1, _, _⟩, ⟨q2, q3, _, _⟩⟩ := hSw; go_simp) hSp ?_
      simp only [Act.put, List.setIfInBounds_toArray, List.set_cons_zero, List.set_cons_succ]
      refine take_at 5 (some 90) (.agg #[.bool false, .int .i64 a6]) rfl rfl (by kernel_rfl) (by kernel_rfl) (by kernel_rfl) (fun _ _ _ h => h) (by rfl) (fun W hSw => by obtain ⟨⟨q0, q1, _, _⟩, ⟨q2, q3, _, _⟩⟩ := hSw; go_simp) hSp ?_
      simp only [Act.put, List.setIfInBounds_toArray, List.set_cons_zero, List.set_cons_succ]
      refine take_at 6 (some 91) (.int .i64 a) rfl rfl (by kernel_rfl) (by kernel_rfl) (by kernel_rfl) (fun _ _ _ h => h) (by rfl) (fun W hSw => by obtain ⟨⟨q0, q1, _, _⟩, ⟨q2, q3, _, _⟩⟩ := hSw; go_simp) hSp ?_
      simp only [Act.put, List.setIfInBounds_toArray, List.set_cons_zero, List.set_cons_succ]
      refine wpAnyH_ready (rs := [7]) (by kernel_rfl) (by simp) ?_
      refine AllReadyH.cons rfl (fun K hK => ?_) AllReadyH.nil
      go_simp
      refine (hoa _).mono ?_
      rintro e wq ⟨rfl, hbq⟩
      have x13q := x13p.later hbq
      have x15q := x15p.later hbq
      have hSq := (⟨x13q, x15q⟩ : (fun W : World => Box W A false i6 ∧ Box W B false a6) wq)
      refine hK.out _ _ hSq (fun _ => ?_)
      clear hK K
      refine take_at 8 (some 93) (.bool false) rfl rfl (by kernel_rfl) (by kernel_rfl) (by kernel_rfl) (fun _ _ _ h => h) (by rfl) (fun W hSw => by exact run_neq _ _ (.tmp 90) (.tmp 92) false a6 rfl (by kernel_rfl) (by kernel_rfl) W) hSq ?_
      simp only [Act.put, List.setIfInBounds_toArray, List.set_cons_zero, List.set_cons_succ]
      refine take_at 9 (some 94) (.bool false) rfl rfl (by kernel_rfl) (by kernel_rfl) (by kernel_rfl) (fun _ _ _ h => h) (by rfl) (fun W hSw => by obtain ⟨⟨q0, q1, _, _⟩, ⟨q2, q3, _, _⟩⟩ := hSw; go_simp) hSq ?_
      simp only [Act.put, List.setIfInBounds_toArray, List.set_cons_zero, List.set_cons_succ]
      refine wpAnyH_done (by kernel_rfl) ?_ _
      refine NoPanic.normal ?_
      have hx9 := ((hx.later (Below.refl _ _).drew).later hbp).later hbq
      have hy9 := ((hy.later (Below.refl _ _).drew).later hbp).later hbq
      have hb9 := Below.chain (Below.chain (hbz.trans (Below.refl _ _).drew) hbp) hbq
      clear hx hy hbz x13 x15 x13p x15p x13q x15q hS0 hSp hSq
      go_wp2_with fail
      have u0 : wq.drew.cell? ⟨b, 301, none⟩ = some (.int .i64 1) := by have := hx9.cc; rw [KX.out] at this; exact this
      have u1 : wq.drew.cell? ⟨c', 301, none⟩ = some (.int .i64 c) := by have := hy9.cc; rw [KY.out] at this; exact this
      have hS0 : (fun W : World => W.cell? ⟨b, 301, none⟩ = some (Value.int .i64 1) ∧ W.cell? ⟨c', 301, none⟩ = some (Value.int .i64 c)) _ := ⟨u0, u1⟩
      refine wp_region_noPanic ?_
      refine wp_region_held_drew (S := fun W : World => W.cell? ⟨b, 301, none⟩ = some (Value.int .i64 1) ∧ W.cell? ⟨c', 301, none⟩ = some (Value.int .i64 c)) (by kernel_rfl) hS0 (fun _ => ?_)
      refine take_at 0 (some 95) (.pointer (some ⟨b, 0, none⟩)) rfl rfl (by kernel_rfl) (by kernel_rfl) (by kernel_rfl) (fun _ _ _ h => h) (by rfl) (fun W hSw => by obtain ⟨q0, q1⟩ := hSw; go_simp) hS0 ?_
      simp only [Act.put, List.setIfInBounds_toArray, List.set_cons_zero, List.set_cons_succ]
      refine take_at 1 (some 96) (.pointer (some ⟨b, 0, none⟩)) rfl rfl (by kernel_rfl) (by kernel_rfl) (by kernel_rfl) (fun _ _ _ h => h) (by rfl) (fun W hSw => by obtain ⟨q0, q1⟩ := hSw; go_simp) hS0 ?_
      simp only [Act.put, List.setIfInBounds_toArray, List.set_cons_zero, List.set_cons_succ]
      refine take_at 2 (some 97) (.pointer (some ⟨b, 0, none⟩)) rfl rfl (by kernel_rfl) (by kernel_rfl) (by kernel_rfl) (fun _ _ _ h => h) (by rfl) (fun W hSw => by obtain ⟨q0, q1⟩ := hSw; go_simp) hS0 ?_
      simp only [Act.put, List.setIfInBounds_toArray, List.set_cons_zero, List.set_cons_succ]
      refine take_at 4 (some 99) (.pointer (some ⟨c', 0, none⟩)) rfl rfl (by kernel_rfl) (by kernel_rfl) (by kernel_rfl) (fun _ _ _ h => h) (by rfl) (fun W hSw => by obtain ⟨q0, q1⟩ := hSw; go_simp) hS0 ?_
      simp only [Act.put, List.setIfInBounds_toArray, List.set_cons_zero, List.set_cons_succ]
      refine take_at 5 (some 100) (.pointer (some ⟨c', 0, none⟩)) rfl rfl (by kernel_rfl) (by kernel_rfl) (by kernel_rfl) (fun _ _ _ h => h) (by rfl) (fun W hSw => by obtain ⟨q0, q1⟩ := hSw; go_simp) hS0 ?_
      simp only [Act.put, List.setIfInBounds_toArray, List.set_cons_zero, List.set_cons_succ]
      refine take_at 6 (some 101) (.pointer (some ⟨c', 0, none⟩)) rfl rfl (by kernel_rfl) (by kernel_rfl) (by kernel_rfl) (fun _ _ _ h => h) (by rfl) (fun W hSw => by obtain ⟨q0, q1⟩ := hSw; go_simp) hS0 ?_
      simp only [Act.put, List.setIfInBounds_toArray, List.set_cons_zero, List.set_cons_succ]
      refine wpAnyH_ready (rs := [3]) (by kernel_rfl) (by simp) ?_
      refine AllReadyH.cons rfl (fun K hK => ?_) AllReadyH.nil
      go_simp
      refine (kept_cell b 1 _ u0).mono ?_
      rintro e w' ⟨rfl, rfl⟩
      have hS3 := (⟨u0, u1⟩ : (fun W : World => W.cell? ⟨b, 301, none⟩ = some (Value.int .i64 1) ∧ W.cell? ⟨c', 301, none⟩ = some (Value.int .i64 c)) _)
      refine hK.out _ _ hS3 (fun _ => ?_)
      clear hK K
      refine wpAnyH_ready (rs := [7]) (by kernel_rfl) (by simp) ?_
      refine AllReadyH.cons rfl (fun K hK => ?_) AllReadyH.nil
      go_simp
      refine (kept_cell c' c _ u1).mono ?_
      rintro e w' ⟨rfl, rfl⟩
      have hS4 := (⟨u0, u1⟩ : (fun W : World => W.cell? ⟨b, 301, none⟩ = some (Value.int .i64 1) ∧ W.cell? ⟨c', 301, none⟩ = some (Value.int .i64 c)) _)
      refine hK.out _ _ hS4 (fun _ => ?_)
      clear hK K
      refine take_at 8 (some 17) (.int .i64 1) rfl rfl (by kernel_rfl) (by kernel_rfl) (by kernel_rfl) (fun _ _ _ h => h) (by rfl) (fun W hSw => by obtain ⟨q0, q1⟩ := hSw; go_simp) hS4 ?_
      simp only [Act.put, List.setIfInBounds_toArray, List.set_cons_zero, List.set_cons_succ]
      refine take_at 9 (some 18) (.int .i64 c) rfl rfl (by kernel_rfl) (by kernel_rfl) (by kernel_rfl) (fun _ _ _ h => h) (by rfl) (fun W hSw => by obtain ⟨q0, q1⟩ := hSw; go_simp) hS4 ?_
      simp only [Act.put, List.setIfInBounds_toArray, List.set_cons_zero, List.set_cons_succ]
      refine wpAnyH_done (by kernel_rfl) ?_ _
      refine NoPanic.normal ?_
      clear hS0 hS3 hS4 u0 u1
      obtain ⟨e1, e2, e3, e4, e5⟩ := EN.out
      go_wp2
      go_roundw
      clear e1 e2 e3 e4 e5
      case rel => exact ⟨i + 1, by omega, by go_num, hx9.later (Below.refl _ _).drew, hy9.later (Below.refl _ _).drew, hb9.trans (Below.refl _ _).drew⟩
      case measure => simp [intOf]; omega
    · have hd : decide ((i : Int) < (M : Int)) = false := decide_eq_false (by omega)
      go_wp2
      go_ret
      exact ⟨rfl, hb⟩
end Go.Proofs.Ytpemknkkignmcaa
