/- kept: how many could still be told. -/
import Derived.Test.YtpemknkkignmcaaERx
namespace Go.Proofs.Ytpemknkkignmcaa
open Go.RowKit

theorem drop_at {l : List Smp} {j : Nat} (h : j < l.length) : l.drop j = l.getD j s0 :: l.drop (j + 1) := by
  rw [List.drop_eq_getElem_cons h, List.getD_eq_getElem?_getD, List.getElem?_eq_getElem h]
  rfl
theorem kg_beat (g : Bool) (x p : Smp) (hx : R64 x.2.2) (hp : R64 p.2.2) :
    (if g = true then decide (0 ≤ fCmp (cnt x.2.1 x.2.2) (cnt p.2.1 p.2.2)) else decide (fCmp (cnt x.2.1 x.2.2) (cnt p.2.1 p.2.2) ≤ 0)) = decide (kg g p ≤ kg g x) := by
  have h := cmp_ky (V.cnt (o := x.2.1) hx.1 hx.2) (V.cnt (o := p.2.1) hp.1 hp.2)
  cases g with
  | true =>
    rw [if_pos rfl]
    refine decide_eq_decide.2 ?_
    show _ ↔ ky (cnt p.2.1 p.2.2) ≤ ky (cnt x.2.1 x.2.2)
    exact h.2
  | false =>
    rw [if_neg (by decide)]
    refine decide_eq_decide.2 ?_
    show _ ↔ - ky (cnt p.2.1 p.2.2) ≤ - ky (cnt x.2.1 x.2.2)
    have := h.1
    omega
set_option maxHeartbeats 4000000 in
theorem rkept_any (ao : Option Addr) (n cap : Nat) (l : List Smp) (g : Bool) (w : World) (hn : n ≤ 1000) (hs : Ms w ao n l) (hl : ∀ s ∈ l, R64 s.2.2) :
    Calls Try.prog 15 #[.slice ao n cap, .bool g] w fun e w' => e = .returned (.int .i64 (thn (kg g) l).length) ∧ Below w.heap.size w w' := by
  obtain ⟨hla, hca⟩ := hs
  have HA : Hid (l.length = n) := hla
  have HC : Hid (0 < n → ∃ b off, ao = some ⟨b, off, none⟩ ∧ ∀ j, j < n → ∀ W, Below w.heap.size w W → W.cell? ⟨b, off + j * 3 + 1, none⟩ = some (.bool (l.getD j s0).2.1) ∧ W.cell? ⟨b, off + j * 3 + 2, none⟩ = some (.int .i64 (l.getD j s0).2.2)) := fun hp => by
    obtain ⟨b, off, e, hc⟩ := hca hp
    exact ⟨b, off, e, fun j hj W hW => ⟨(hW.cell (World.block_lt_of_cell? _ _ (hc j hj).2.1)).trans (hc j hj).2.1, (hW.cell (World.block_lt_of_cell? _ _ (hc j hj).2.2)).trans (hc j hj).2.2⟩⟩
  have HL : Hid (∀ s ∈ l, R64 s.2.2) := hl
  clear hca hla hl
  go_enter Try.func15, Try.ntmps15
  go_wp2
  go_loopw [6, 5] (fun i s wr => ∃ j m : Nat, j ≤ n ∧ m ≤ j ∧ i = .int .i64 j ∧ s = .int .i64 m ∧ Hid (m + (thn (kg g) (l.drop j)).length = (thn (kg g) l).length) ∧ Below w.heap.size w wr) (fun i _ _ => n - (intOf i).toNat)
  case atStart => exact ⟨0, 0, by omega, by omega, rfl, rfl, by show _ = _; rw [List.drop_zero, Nat.zero_add], Below.refl _ _⟩
  case round =>
    obtain ⟨i, m, hi, hm, rfl, rfl, HM, hb⟩ := hrel
    by_cases hlt : i < n
    · have hd : decide ((i : Int) < (n : Int)) = true := decide_eq_true (by omega)
      obtain ⟨b, off, rfl, hc⟩ := HC.out (by omega)
      have HCC : Hid (∀ j, j < n → ∀ W, Below w.heap.size w W → W.cell? ⟨b, off + j * 3 + 1, none⟩ = some (.bool (l.getD j s0).2.1) ∧ W.cell? ⟨b, off + j * 3 + 2, none⟩ = some (.int .i64 (l.getD j s0).2.2)) := hc
      have hrp := HL.out _ (getD_memS (l := l) (j := i) (by rw [HA.out]; exact hlt))
      have HDi : Hid (l.drop i = l.getD i s0 :: l.drop (i + 1)) := drop_at (by rw [HA.out]; exact hlt)
      have HPi : Hid (∀ W, Below w.heap.size w W → W.cell? ⟨b, off + i * 3 + 1, none⟩ = some (.bool (l.getD i s0).2.1) ∧ W.cell? ⟨b, off + i * 3 + 2, none⟩ = some (.int .i64 (l.getD i s0).2.2)) := hc i hlt
      have E2 : Hid (wrap64 ((i : Int) + 1) = (i : Int) + 1 ∧ wrap64 ((m : Int) + 1) = (m : Int) + 1) := ⟨by unfold wrap64; omega, by unfold wrap64; omega⟩
      clear hc
      generalize l.getD i s0 = p at *
      obtain ⟨pt, po, pn⟩ := p
      dsimp only at *
      have e2 := E2.out.1
      go_wp2_with fail
      clear e2
      go_loopw [8, 7] (fun k s wr => ∃ (kk : Nat) (bd : Bool), i + 1 ≤ kk ∧ kk ≤ n ∧ k = .int .i64 kk ∧ s = .bool bd ∧ Hid ((bd || (l.drop kk).any (fun x => decide (kg g (pt, po, pn) ≤ kg g x))) = (l.drop (i + 1)).any (fun x => decide (kg g (pt, po, pn) ≤ kg g x))) ∧ Below w.heap.size w wr) (fun k _ _ => n - (intOf k).toNat)
      case atStart => exact ⟨i + 1, false, by omega, by omega, by go_num, rfl, by show _ = _; rw [Bool.false_or], hb⟩
      case round =>
        clear hb
        obtain ⟨kk, bd, hk1, hk, rfl, rfl, HB, hb⟩ := hrel
        by_cases hlk : kk < n
        · have hdk : decide ((kk : Int) < (n : Int)) = true := decide_eq_true (by omega)
          obtain ⟨v0w, v1w⟩ := HCC.out kk hlk _ hb
          obtain ⟨v2w, v3w⟩ := HPi.out _ hb
          have hrx := HL.out _ (getD_memS (l := l) (j := kk) (by rw [HA.out]; exact hlk))
          have HD : Hid (l.drop kk = l.getD kk s0 :: l.drop (kk + 1)) := drop_at (by rw [HA.out]; exact hlk)
          have E1 : Hid (wrap64 ((kk : Int) + 1) = (kk : Int) + 1) := by show _ = _; unfold wrap64; omega
          generalize l.getD kk s0 = x at *
          obtain ⟨xt, xo, xn⟩ := x
          dsimp only at *
          have hcm := fun W => rcmp_any xo po xn pn W hrx hrp
          have hkc := kg_beat g (xt, xo, xn) (pt, po, pn) hrx hrp
          dsimp only at hkc
          obtain ⟨r, hr⟩ : ∃ r, r = decide (kg g (pt, po, pn) ≤ kg g (xt, xo, xn)) := ⟨_, rfl⟩
          have HPx : Hid (decide (kg g (pt, po, pn) ≤ kg g (xt, xo, xn)) = r) := hr.symm
          rw [← hr] at hkc
          clear hr
          generalize fCmp (cnt xo xn) (cnt po pn) = c at *
          go_wp2_with fail
          have v0 : wr.drew.cell? ⟨b, off + kk * 3 + 1, none⟩ = some (Value.bool xo) := v0w
          have v1 : wr.drew.cell? ⟨b, off + kk * 3 + 2, none⟩ = some (Value.int .i64 xn) := v1w
          have v2 : wr.drew.cell? ⟨b, off + i * 3 + 1, none⟩ = some (Value.bool po) := v2w
          have v3 : wr.drew.cell? ⟨b, off + i * 3 + 2, none⟩ = some (Value.int .i64 pn) := v3w
          have hbd : Below w.heap.size w wr.drew := hb.trans (Below.refl _ _).drew
          clear v0w v1w v2w v3w hb
          have hS0 : (fun W : World => (W.cell? ⟨b, off + kk * 3 + 1, none⟩ = some (Value.bool xo) ∧ W.cell? ⟨b, off + kk * 3 + 2, none⟩ = some (Value.int .i64 xn)) ∧ W.cell? ⟨b, off + i * 3 + 1, none⟩ = some (Value.bool po) ∧ W.cell? ⟨b, off + i * 3 + 2, none⟩ = some (Value.int .i64 pn)) _ := ⟨⟨v0, v1⟩, v2, v3⟩
          refine wp_region_noPanic ?_
          refine wp_region_held_drew (S := fun W : World => (W.cell? ⟨b, off + kk * 3 + 1, none⟩ = some (Value.bool xo) ∧ W.cell? ⟨b, off + kk * 3 + 2, none⟩ = some (Value.int .i64 xn)) ∧ W.cell? ⟨b, off + i * 3 + 1, none⟩ = some (Value.bool po) ∧ W.cell? ⟨b, off + i * 3 + 2, none⟩ = some (Value.int .i64 pn)) (by kernel_rfl) hS0 (fun _ => ?_)
          refine take_at 0 (some 24) (.slice (some ⟨b, off, none⟩) n cap) rfl rfl (by kernel_rfl) (by kernel_rfl) (by kernel_rfl) (fun _ _ _ h => h) (by rfl) (fun W hSw => by obtain ⟨⟨q0, q1⟩, q2, q3⟩ := hSw; go_simp) hS0 ?_
          simp only [Act.put, List.setIfInBounds_toArray, List.set_cons_zero, List.set_cons_succ]
          refine take_at 1 (some 25) (.int .i64 kk) rfl rfl (by kernel_rfl) (by kernel_rfl) (by kernel_rfl) (fun _ _ _ h => h) (by rfl) (fun W hSw => by obtain ⟨⟨q0, q1⟩, q2, q3⟩ := hSw; go_simp) hS0 ?_
          simp only [Act.put, List.setIfInBounds_toArray, List.set_cons_zero, List.set_cons_succ]
          refine take_at 2 (some 26) (.pointer (some ⟨b, off + kk * 3, none⟩)) rfl rfl (by kernel_rfl) (by kernel_rfl) (by kernel_rfl) (fun _ _ _ h => h) (by rfl) (fun W hSw => by obtain ⟨⟨q0, q1⟩, q2, q3⟩ := hSw; go_simp; try (intro hh; exfalso; omega)) hS0 ?_
          simp only [Act.put, List.setIfInBounds_toArray, List.set_cons_zero, List.set_cons_succ]
          refine take_at 3 (some 27) (.pointer (some ⟨b, off + kk * 3 + 1, none⟩)) rfl rfl (by kernel_rfl) (by kernel_rfl) (by kernel_rfl) (fun _ _ _ h => h) (by rfl) (fun W hSw => by obtain ⟨⟨q0, q1⟩, q2, q3⟩ := hSw; go_simp) hS0 ?_
          simp only [Act.put, List.setIfInBounds_toArray, List.set_cons_zero, List.set_cons_succ]
          refine take_at 4 (some 28) (.agg #[.bool xo, .int .i64 xn]) rfl rfl (by kernel_rfl) (by kernel_rfl) (by kernel_rfl) (fun _ _ _ h => h) (by rfl) (fun W hSw => by obtain ⟨⟨q0, q1⟩, q2, q3⟩ := hSw; go_simp) hS0 ?_
          simp only [Act.put, List.setIfInBounds_toArray, List.set_cons_zero, List.set_cons_succ]
          refine take_at 5 (some 29) (.slice (some ⟨b, off, none⟩) n cap) rfl rfl (by kernel_rfl) (by kernel_rfl) (by kernel_rfl) (fun _ _ _ h => h) (by rfl) (fun W hSw => by obtain ⟨⟨q0, q1⟩, q2, q3⟩ := hSw; go_simp) hS0 ?_
          simp only [Act.put, List.setIfInBounds_toArray, List.set_cons_zero, List.set_cons_succ]
          refine take_at 6 (some 30) (.int .i64 i) rfl rfl (by kernel_rfl) (by kernel_rfl) (by kernel_rfl) (fun _ _ _ h => h) (by rfl) (fun W hSw => by obtain ⟨⟨q0, q1⟩, q2, q3⟩ := hSw; go_simp) hS0 ?_
          simp only [Act.put, List.setIfInBounds_toArray, List.set_cons_zero, List.set_cons_succ]
          refine take_at 7 (some 31) (.pointer (some ⟨b, off + i * 3, none⟩)) rfl rfl (by kernel_rfl) (by kernel_rfl) (by kernel_rfl) (fun _ _ _ h => h) (by rfl) (fun W hSw => by obtain ⟨⟨q0, q1⟩, q2, q3⟩ := hSw; go_simp; try (intro hh; exfalso; omega)) hS0 ?_
          simp only [Act.put, List.setIfInBounds_toArray, List.set_cons_zero, List.set_cons_succ]
          refine take_at 8 (some 32) (.pointer (some ⟨b, off + i * 3 + 1, none⟩)) rfl rfl (by kernel_rfl) (by kernel_rfl) (by kernel_rfl) (fun _ _ _ h => h) (by rfl) (fun W hSw => by obtain ⟨⟨q0, q1⟩, q2, q3⟩ := hSw; go_simp) hS0 ?_
          simp only [Act.put, List.setIfInBounds_toArray, List.set_cons_zero, List.set_cons_succ]
          refine take_at 9 (some 33) (.agg #[.bool po, .int .i64 pn]) rfl rfl (by kernel_rfl) (by kernel_rfl) (by kernel_rfl) (fun _ _ _ h => h) (by rfl) (fun W hSw => by obtain ⟨⟨q0, q1⟩, q2, q3⟩ := hSw; go_simp) hS0 ?_
          simp only [Act.put, List.setIfInBounds_toArray, List.set_cons_zero, List.set_cons_succ]
          refine wpAnyH_ready (rs := [10]) (by kernel_rfl) (by simp) ?_
          refine AllReadyH.cons rfl (fun K hK => ?_) AllReadyH.nil
          go_simp
          refine (hcm _).mono ?_
          rintro e w3 ⟨rfl, hb3⟩
          have z0 := (hb3.cell (World.block_lt_of_cell? _ _ v0)).trans v0
          have z1 := (hb3.cell (World.block_lt_of_cell? _ _ v1)).trans v1
          have z2 := (hb3.cell (World.block_lt_of_cell? _ _ v2)).trans v2
          have z3 := (hb3.cell (World.block_lt_of_cell? _ _ v3)).trans v3
          have hS3 := (⟨⟨z0, z1⟩, z2, z3⟩ : (fun W : World => (W.cell? ⟨b, off + kk * 3 + 1, none⟩ = some (Value.bool xo) ∧ W.cell? ⟨b, off + kk * 3 + 2, none⟩ = some (Value.int .i64 xn)) ∧ W.cell? ⟨b, off + i * 3 + 1, none⟩ = some (Value.bool po) ∧ W.cell? ⟨b, off + i * 3 + 2, none⟩ = some (Value.int .i64 pn)) w3)
          refine hK.out _ _ hS3 (fun _ => ?_)
          clear hK K
          refine take_at 11 (some 9) (.int .i64 c) rfl rfl (by kernel_rfl) (by kernel_rfl) (by kernel_rfl) (fun _ _ _ h => h) (by rfl) (fun W hSw => by obtain ⟨⟨q0, q1⟩, q2, q3⟩ := hSw; go_simp) hS3 ?_
          simp only [Act.put, List.setIfInBounds_toArray, List.set_cons_zero, List.set_cons_succ]
          refine wpAnyH_done (by kernel_rfl) ?_ _
          refine NoPanic.normal ?_
          have hb4 := Below.chain hbd hb3
          clear hS0 hS3 v0 v1 v2 v3 z0 z1 z2 z3 hcm hrx hbd
          cases bd with
          | true =>
            clear hkc
            have e1 := E1.out
            go_wp2_with fail
            go_roundw
            clear e1
            case rel => exact ⟨kk + 1, true, by omega, by omega, by go_num, rfl, by show _ = _; rw [← HB.out, HD.out, List.any_cons, HPx.out]; rfl, hb4⟩
            case measure => simp [intOf]; omega
          | false =>
            cases g with
            | true =>
              rw [if_pos rfl] at hkc
              cases r with
              | true =>
                have e1 := E1.out
                go_wp2_with fail
                go_roundw
                clear e1
                case rel => exact ⟨kk + 1, true, by omega, by omega, by go_num, rfl, by show _ = _; rw [← HB.out, HD.out, List.any_cons, HPx.out]; rfl, hb4⟩
                case measure => simp [intOf]; omega
              | false =>
                have e1 := E1.out
                go_wp2_with fail
                go_roundw
                clear e1
                case rel => exact ⟨kk + 1, false, by omega, by omega, by go_num, rfl, by show _ = _; rw [← HB.out, HD.out, List.any_cons, HPx.out]; rfl, hb4⟩
                case measure => simp [intOf]; omega
            | false =>
              rw [if_neg (by decide)] at hkc
              cases r with
              | true =>
                have e1 := E1.out
                go_wp2_with fail
                go_roundw
                clear e1
                case rel => exact ⟨kk + 1, true, by omega, by omega, by go_num, rfl, by show _ = _; rw [← HB.out, HD.out, List.any_cons, HPx.out]; rfl, hb4⟩
                case measure => simp [intOf]; omega
              | false =>
                have e1 := E1.out
                go_wp2_with fail
                go_roundw
                clear e1
                case rel => exact ⟨kk + 1, false, by omega, by omega, by go_num, rfl, by show _ = _; rw [← HB.out, HD.out, List.any_cons, HPx.out]; rfl, hb4⟩
                case measure => simp [intOf]; omega
        · have hdk : decide ((kk : Int) < (n : Int)) = false := decide_eq_false (by omega)
          obtain rfl : n = kk := by omega
          have HE : Hid (bd = (l.drop (i + 1)).any (fun x => decide (kg g (pt, po, pn) ≤ kg g x))) := by
            have := HB.out
            rw [List.drop_eq_nil_of_le (by rw [HA.out]; exact Nat.le_refl _)] at this
            show _ = _
            rw [← this]
            simp
          have HTh : Hid (thn (kg g) (l.drop i) = if bd = true then thn (kg g) (l.drop (i + 1)) else (pt, po, pn) :: thn (kg g) (l.drop (i + 1))) := by show _ = _; rw [HDi.out, thn_cons, ← HE.out]
          obtain ⟨e1, e2⟩ := E2.out
          cases bd with
          | true =>
            go_wp2_with fail
            go_roundw
            clear e1 e2
            case rel => exact ⟨i + 1, m, by omega, by omega, by go_num, rfl, by have h1 := HM.out; have h2 := HTh.out; rw [if_pos rfl] at h2; rw [h2] at h1; exact h1, hb⟩
            case measure => simp [intOf]; omega
          | false =>
            go_wp2_with fail
            go_roundw
            clear e1 e2
            case rel => exact ⟨i + 1, m + 1, by omega, by omega, by go_num, by go_num, by have h1 := HM.out; have h2 := HTh.out; rw [if_neg (by decide)] at h2; rw [h2, List.length_cons] at h1; show _ = _; omega, hb⟩
            case measure => simp [intOf]; omega
    · have hd : decide ((i : Int) < (n : Int)) = false := decide_eq_false (by omega)
      obtain rfl : n = i := by omega
      have HE : Hid (m = (thn (kg g) l).length) := by
        have := HM.out
        rw [List.drop_eq_nil_of_le (by rw [HA.out]; exact Nat.le_refl _)] at this
        exact this
      go_wp2
      go_ret
      exact ⟨by rw [← HE.out]; rfl, hb⟩
end Go.Proofs.Ytpemknkkignmcaa
