/- The document's own greatest and least of numbers. -/
import Derived.Test.YtpemknkkignmcaaEVal
namespace Go.Proofs.Ytpemknkkignmcaa
open Go.RowKit

theorem takeN {l : List (Bool × Int)} {j : Nat} (h : j < l.length) : l.take (j + 1) = l.take j ++ [l.getD j (false, 0)] := by
  rw [List.take_add_one, List.getD_eq_getElem?_getD, List.getElem?_eq_getElem h]
  rfl
theorem getD_memM {l : List (Bool × Int)} {j : Nat} (h : j < l.length) : l.getD j (false, 0) ∈ l := by
  rw [List.getD_eq_getElem?_getD, List.getElem?_eq_getElem h]
  exact List.getElem_mem h
/-- How one number stands to another, for the greatest or the least. -/
theorem kg_cmp (g : Bool) (x p : Bool × Int) (hx : R64 x.2) (hp : R64 p.2) :
    (if g = true then decide (0 < fCmp (cnt x.1 x.2) (cnt p.1 p.2)) else decide (fCmp (cnt x.1 x.2) (cnt p.1 p.2) < 0)) = decide (kg g (0, p) < kg g (0, x)) := by
  have h := cmp_ky (V.cnt (o := x.1) hx.1 hx.2) (V.cnt (o := p.1) hp.1 hp.2)
  cases g with
  | true =>
    rw [if_pos rfl]
    refine decide_eq_decide.2 ?_
    show _ ↔ ky (cnt p.1 p.2) < ky (cnt x.1 x.2)
    have := h.1
    omega
  | false =>
    rw [if_neg (by decide)]
    refine decide_eq_decide.2 ?_
    show _ ↔ - ky (cnt p.1 p.2) < - ky (cnt x.1 x.2)
    have := h.2
    omega
set_option maxHeartbeats 2000000 in
theorem rext_nil (cap : Nat) (ao : Option Addr) (g : Bool) (w : World) :
    Calls Try.prog 12 #[.slice ao 0 cap, .bool g] w fun e w' => e = .returned (.tuple #[.agg #[.bool false, .int .i64 0], .bool false]) ∧ Below w.heap.size w w' := by
  have hb1 := bal (Below.refl _ w) (.cells #[.bool false, .int .i64 0] 28)
  go_enter Try.func12, Try.ntmps12
  go_wp2
  exact bodyPost_ret (v := .tuple #[.agg #[.bool false, .int .i64 0], .bool false]) (by simp [results, Try.results12, go_sem]) rfl ⟨rfl, by first | exact hb1 | exact put2 hb1 (Nat.le_refl _) false 0⟩
set_option maxHeartbeats 4000000 in
theorem rext_any (ao : Option Addr) (n cap : Nat) (l : List (Bool × Int)) (g : Bool) (w : World) (hn : 0 < n ∧ n ≤ 1000) (hs : Ns w ao n l) (hl : ∀ x ∈ l, R64 x.2) :
    Calls Try.prog 12 #[.slice ao n cap, .bool g] w fun e w' => ∃ p ∈ l, (∀ x ∈ l, kg g (0, x) ≤ kg g (0, p)) ∧ e = .returned (.tuple #[.agg #[.bool (ov (cnt p.1 p.2)), .int .i64 (nn (cnt p.1 p.2))], .bool true]) ∧ Below w.heap.size w w' := by
  obtain ⟨hla, hca⟩ := hs
  obtain ⟨b, off, rfl, hc⟩ := hca hn.1
  have HA : Hid (l.length = n) := hla
  have HC0 : Hid (∀ j, j < n → ∀ W, Below w.heap.size w W → W.cell? ⟨b, off + j * 2, none⟩ = some (.bool (l.getD j (false, 0)).1) ∧ W.cell? ⟨b, off + j * 2 + 1, none⟩ = some (.int .i64 (l.getD j (false, 0)).2)) := fun j hj W hW => ⟨(hW.cell (World.block_lt_of_cell? _ _ (hc j hj).1)).trans (hc j hj).1, (hW.cell (World.block_lt_of_cell? _ _ (hc j hj).2)).trans (hc j hj).2⟩
  have HL : Hid (∀ x ∈ l, R64 x.2) := hl
  have hbA := bal (Below.refl _ w) (.cells #[.bool false, .int .i64 0] 28)
  have hxA := Box.new w false 0
  obtain ⟨v0, v1⟩ := HC0.out 0 hn.1 _ hbA
  have H0 : Hid (l.take 1 = [l.getD 0 (false, 0)]) := by show _ = _; rw [takeN (by rw [hla]; exact hn.1)]; rfl
  rw [Nat.zero_mul, Nat.add_zero] at v0 v1
  have d0 : ((n : Int) == 0) = false := by rw [beq_eq_false_iff_ne]; omega
  clear hc hla hca hl
  generalize hx0 : l.getD 0 (false, 0) = x0 at *
  clear hx0
  obtain ⟨fo, fn⟩ := x0
  dsimp only at *
  have hbB := bal hbA (.cells #[.bool fo, .int .i64 fn] 28)
  have hxB := Box.new (w.alloc (.cells #[.bool false, .int .i64 0] 28)) fo fn
  have hxA2 := hxA.later (bal (Below.refl _ _) (.cells #[.bool fo, .int .i64 fn] 28))
  go_enter Try.func12, Try.ntmps12
  go_wp2_with fail
  have hBw : w.heap.size ≤ (w.alloc (.cells #[.bool false, .int .i64 0] 28)).heap.size := hbA.size
  have hAB : (w.alloc (.cells #[.bool false, .int .i64 0] 28)).heap.size ≠ w.heap.size := by simp
  generalize hw2 : (w.alloc (.cells #[.bool false, .int .i64 0] 28)).alloc (.cells #[.bool fo, .int .i64 fn] 28) = w2 at *
  clear hw2
  have e0 : (w.alloc (.cells #[.bool false, .int .i64 0] 28)).heap.size = w.heap.size + 1 := by simp
  rw [e0] at hxB hBw hAB
  generalize hBB : w.heap.size + 1 = B at *
  go_loopw [7] (fun i wr => ∃ (j : Nat) (po : Bool) (pn : Int), 1 ≤ j ∧ j ≤ n ∧ i = .int .i64 j ∧ Box wr B po pn ∧ Box wr w.heap.size false 0 ∧ (po, pn) ∈ l.take j ∧ (∀ x ∈ l.take j, kg g (0, x) ≤ kg g (0, po, pn)) ∧ Below w.heap.size w wr) (fun i _ => n - (intOf i).toNat)
  case atStart => exact ⟨1, fo, fn, by omega, by omega, rfl, hxB, hxA2, by rw [H0.out]; exact List.mem_cons_self, by rw [H0.out]; exact fun y hy => by rw [List.mem_singleton.1 hy]; exact Int.le_refl _, hbB⟩
  case round =>
    clear hxB hxA2 hbB hxA hbA v0 v1
    obtain ⟨j, po, pn, hj1, hj, rfl, xb0, xa0, hp, hm, hb⟩ := hrel
    have HP : Hid _ := hp
    have HM : Hid _ := hm
    by_cases hlt : j < n
    · have hd : decide ((j : Int) < (n : Int)) = true := decide_eq_true (by omega)
      obtain ⟨v0w, v1w⟩ := HC0.out j hlt _ hb
      have hrp : R64 pn := HL.out _ (List.take_subset _ _ hp)
      have hrx := HL.out _ (getD_memM (l := l) (j := j) (by rw [HA.out]; exact hlt))
      have HT : Hid (l.take (j + 1) = l.take j ++ [l.getD j (false, 0)]) := takeN (by rw [HA.out]; exact hlt)
      clear hp hm
      generalize l.getD j (false, 0) = x at *
      obtain ⟨xo, xn⟩ := x
      dsimp only at *
      have hcm := fun W => rcmp_any xo po xn pn W hrx hrp
      have hkc := kg_cmp g (xo, xn) (po, pn) hrx hrp
      dsimp only at hkc
      generalize fCmp (cnt xo xn) (cnt po pn) = c at *
      go_wp2_with fail
      have v0 : wr.drew.cell? ⟨b, off + j * 2, none⟩ = some (Value.bool xo) := v0w
      have v1 : wr.drew.cell? ⟨b, off + j * 2 + 1, none⟩ = some (Value.int .i64 xn) := v1w
      have xb : Box wr.drew B po pn := xb0.later (Below.refl _ _).drew
      have hbd : Below w.heap.size w wr.drew := hb.trans (Below.refl _ _).drew
      have xad : Box wr.drew w.heap.size false 0 := xa0.later (Below.refl _ _).drew
      clear v0w v1w xb0 hb xa0
      have hS0 : (fun W : World => (W.cell? ⟨b, off + j * 2, none⟩ = some (Value.bool xo) ∧ W.cell? ⟨b, off + j * 2 + 1, none⟩ = some (Value.int .i64 xn)) ∧ Box W B po pn) _ := ⟨⟨v0, v1⟩, xb⟩
      refine wp_region_noPanic ?_
      refine wp_region_held_drew (S := fun W : World => (W.cell? ⟨b, off + j * 2, none⟩ = some (Value.bool xo) ∧ W.cell? ⟨b, off + j * 2 + 1, none⟩ = some (Value.int .i64 xn)) ∧ Box W B po pn) (by kernel_rfl) hS0 (fun _ => ?_)
      refine take_at 0 (some 22) (.slice (some ⟨b, off, none⟩) n cap) rfl rfl (by kernel_rfl) (by kernel_rfl) (by kernel_rfl) (fun _ _ _ h => h) (by rfl) (fun W hSw => by obtain ⟨⟨q0, q1⟩, ⟨q2, q3, _, _⟩⟩ := hSw; go_simp) hS0 ?_
      simp only [Act.put, List.setIfInBounds_toArray, List.set_cons_zero, List.set_cons_succ]
      refine take_at 1 (some 23) (.int .i64 j) rfl rfl (by kernel_rfl) (by kernel_rfl) (by kernel_rfl) (fun _ _ _ h => h) (by rfl) (fun W hSw => by obtain ⟨⟨q0, q1⟩, ⟨q2, q3, _, _⟩⟩ := hSw; go_simp) hS0 ?_
      simp only [Act.put, List.setIfInBounds_toArray, List.set_cons_zero, List.set_cons_succ]
      refine take_at 2 (some 24) (.pointer (some ⟨b, off + j * 2, none⟩)) rfl rfl (by kernel_rfl) (by kernel_rfl) (by kernel_rfl) (fun _ _ _ h => h) (by rfl) (fun W hSw => by obtain ⟨⟨q0, q1⟩, ⟨q2, q3, _, _⟩⟩ := hSw; go_simp; try (intro hh; exfalso; omega)) hS0 ?_
      simp only [Act.put, List.setIfInBounds_toArray, List.set_cons_zero, List.set_cons_succ]
      refine take_at 3 (some 25) (.agg #[.bool xo, .int .i64 xn]) rfl rfl (by kernel_rfl) (by kernel_rfl) (by kernel_rfl) (fun _ _ _ h => h) (by rfl) (fun W hSw => by obtain ⟨⟨q0, q1⟩, ⟨q2, q3, _, _⟩⟩ := hSw; go_simp) hS0 ?_
      simp only [Act.put, List.setIfInBounds_toArray, List.set_cons_zero, List.set_cons_succ]
      refine take_at 4 (some 26) (.agg #[.bool po, .int .i64 pn]) rfl rfl (by kernel_rfl) (by kernel_rfl) (by kernel_rfl) (fun _ _ _ h => h) (by rfl) (fun W hSw => by obtain ⟨⟨q0, q1⟩, ⟨q2, q3, _, _⟩⟩ := hSw; go_simp) hS0 ?_
      simp only [Act.put, List.setIfInBounds_toArray, List.set_cons_zero, List.set_cons_succ]
      refine wpAnyH_ready (rs := [5]) (by kernel_rfl) (by simp) ?_
      refine AllReadyH.cons rfl (fun K hK => ?_) AllReadyH.nil
      go_simp
      refine (hcm _).mono ?_
      rintro e w3 ⟨rfl, hb3⟩
      have xb3 := xb.later hb3
      have v03 := (hb3.cell (World.block_lt_of_cell? _ _ v0)).trans v0
      have v13 := (hb3.cell (World.block_lt_of_cell? _ _ v1)).trans v1
      have hS3 := (⟨⟨v03, v13⟩, xb3⟩ : (fun W : World => (W.cell? ⟨b, off + j * 2, none⟩ = some (Value.bool xo) ∧ W.cell? ⟨b, off + j * 2 + 1, none⟩ = some (Value.int .i64 xn)) ∧ Box W B po pn) w3)
      refine hK.out _ _ hS3 (fun _ => ?_)
      clear hK K
      refine take_at 6 (some 8) (.int .i64 c) rfl rfl (by kernel_rfl) (by kernel_rfl) (by kernel_rfl) (fun _ _ _ h => h) (by rfl) (fun W hSw => by obtain ⟨⟨q0, q1⟩, ⟨q2, q3, _, _⟩⟩ := hSw; go_simp) hS3 ?_
      simp only [Act.put, List.setIfInBounds_toArray, List.set_cons_zero, List.set_cons_succ]
      refine wpAnyH_done (by kernel_rfl) ?_ _
      refine NoPanic.normal ?_
      have hb4 := Below.chain hbd hb3
      have xa3 := xad.later hb3
      clear xad
      have z0 := v03
      have z1 := v13
      clear hS0 hS3 v0 v1 xb v03 v13 hcm hrp hrx
      by_cases hk : kg g (0, po, pn) < kg g (0, xo, xn)
      · have HC : Hid (kg g (0, po, pn) ≤ kg g (0, xo, xn)) := Int.le_of_lt hk
        rw [decide_eq_true hk] at hkc
        clear hk
        cases g with
        | true =>
          rw [if_pos rfl] at hkc
          have d1 := hkc
          have d2 : decide (c < 0) = false := decide_eq_false (by have := of_decide_eq_true hkc; omega)
          clear hkc
          have hbz := put2 hb4 hBw xo xn
          have xbz := (xb3.put (p := xo) (m := xn))
          have xaz : Box ((w3.setCell ⟨B, 0, none⟩ (.bool xo)).setCell ⟨B, 1, none⟩ (.int .i64 xn)) w.heap.size false 0 := xa3.put_other hAB
          obtain ⟨m0, m1, l0, l1⟩ := id xb3
          go_wp2_with fail
          go_roundw
          clear d1 d2
          case rel => exact ⟨j + 1, xo, xn, by omega, by omega, by go_num, xbz, xaz, by rw [HT.out]; exact List.mem_append_right _ List.mem_cons_self, by rw [HT.out]; exact fun y hy => (List.mem_append.1 hy).elim (fun h => Int.le_trans (HM.out y h) HC.out) (fun h => by rw [List.mem_singleton.1 h]; exact Int.le_refl _), hbz⟩
          case measure => simp [intOf]; omega
        | false =>
          rw [if_neg (by decide)] at hkc
          have d1 : decide (0 < c) = false := decide_eq_false (by have := of_decide_eq_true hkc; omega)
          have d2 := hkc
          clear hkc
          have hbz := put2 hb4 hBw xo xn
          have xbz := (xb3.put (p := xo) (m := xn))
          have xaz : Box ((w3.setCell ⟨B, 0, none⟩ (.bool xo)).setCell ⟨B, 1, none⟩ (.int .i64 xn)) w.heap.size false 0 := xa3.put_other hAB
          obtain ⟨m0, m1, l0, l1⟩ := id xb3
          go_wp2_with fail
          go_roundw
          clear d1 d2
          case rel => exact ⟨j + 1, xo, xn, by omega, by omega, by go_num, xbz, xaz, by rw [HT.out]; exact List.mem_append_right _ List.mem_cons_self, by rw [HT.out]; exact fun y hy => (List.mem_append.1 hy).elim (fun h => Int.le_trans (HM.out y h) HC.out) (fun h => by rw [List.mem_singleton.1 h]; exact Int.le_refl _), hbz⟩
          case measure => simp [intOf]; omega
      · have HC : Hid (kg g (0, xo, xn) ≤ kg g (0, po, pn)) := by show _ ≤ _; omega
        rw [decide_eq_false hk] at hkc
        clear hk
        cases g with
        | true =>
          rw [if_pos rfl] at hkc
          have d1 := hkc
          rcases hc2 : decide (c < 0) with _ | _
          · have d2 := hc2
            clear hkc hc2
            go_wp2_with fail
            go_roundw
            clear d1 d2
            case rel => exact ⟨j + 1, po, pn, by omega, by omega, by go_num, xb3, xa3, by rw [HT.out]; exact List.mem_append_left _ HP.out, by rw [HT.out]; exact fun y hy => (List.mem_append.1 hy).elim (HM.out y) (fun h => by rw [List.mem_singleton.1 h]; exact HC.out), hb4⟩
            case measure => simp [intOf]; omega
          · have d2 := hc2
            clear hkc hc2
            go_wp2_with fail
            go_roundw
            clear d1 d2
            case rel => exact ⟨j + 1, po, pn, by omega, by omega, by go_num, xb3, xa3, by rw [HT.out]; exact List.mem_append_left _ HP.out, by rw [HT.out]; exact fun y hy => (List.mem_append.1 hy).elim (HM.out y) (fun h => by rw [List.mem_singleton.1 h]; exact HC.out), hb4⟩
            case measure => simp [intOf]; omega
        | false =>
          rw [if_neg (by decide)] at hkc
          have d2 := hkc
          rcases hc2 : decide (0 < c) with _ | _
          · have d1 := hc2
            clear hkc hc2
            go_wp2_with fail
            go_roundw
            clear d1 d2
            case rel => exact ⟨j + 1, po, pn, by omega, by omega, by go_num, xb3, xa3, by rw [HT.out]; exact List.mem_append_left _ HP.out, by rw [HT.out]; exact fun y hy => (List.mem_append.1 hy).elim (HM.out y) (fun h => by rw [List.mem_singleton.1 h]; exact HC.out), hb4⟩
            case measure => simp [intOf]; omega
          · have d1 := hc2
            clear hkc hc2
            go_wp2_with fail
            go_roundw
            clear d1 d2
            case rel => exact ⟨j + 1, po, pn, by omega, by omega, by go_num, xb3, xa3, by rw [HT.out]; exact List.mem_append_left _ HP.out, by rw [HT.out]; exact fun y hy => (List.mem_append.1 hy).elim (HM.out y) (fun h => by rw [List.mem_singleton.1 h]; exact HC.out), hb4⟩
            case measure => simp [intOf]; omega
    · have hd : decide ((j : Int) < (n : Int)) = false := decide_eq_false (by omega)
      obtain rfl : n = j := by omega
      have HTa : Hid (l.take n = l) := List.take_of_length_le (by rw [HA.out]; exact Nat.le_refl _)
      have hrp : R64 pn := HL.out _ (List.take_subset _ _ hp)
      obtain ⟨m0, m1, l0, l1⟩ := id xb0
      clear hp hm
      go_wp2_with fail
      refine (rnorm_any po pn _ hrp).mono ?_
      rintro e w3 ⟨rfl, hb3⟩
      have hb4 := Below.chain hb hb3
      have hAw : Box w3 w.heap.size false 0 := xa0.later hb3
      obtain ⟨a0, a1, f0, f1⟩ := id hAw
      obtain ⟨p0, p1, _, _⟩ := hAw.put (p := ov (cnt po pn)) (m := nn (cnt po pn))
      go_wp2
      exact bodyPost_ret (v := .tuple #[.agg #[.bool (ov (cnt po pn)), .int .i64 (nn (cnt po pn))], .bool true]) (by simp [results, Try.results12, go_sem, p0, p1]) rfl ⟨(po, pn), by rw [← HTa.out]; exact HP.out, by rw [← HTa.out]; exact HM.out, rfl, put2 hb4 (Nat.le_refl _) _ _⟩
end Go.Proofs.Ytpemknkkignmcaa
