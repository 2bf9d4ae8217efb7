/- RingMeans: the walk. -/
import Derived.Test.YtchopogodfghoaaRMeans
namespace Go.Proofs.Ytchopogodfghoaa
open Go.RowKit

/-- A slice of int32s that reads as l. -/
def Is32 (w : World) (ao : Option Addr) (n : Nat) (l : List Int) : Prop :=
  l.length = n ∧ (0 < n → ∃ b off, ao = some ⟨b, off, none⟩ ∧ ∀ j, j < n → w.cell? ⟨b, off + j, none⟩ = some (.int .i32 (l.getD j 0)))
theorem Is32.later {w w' : World} {ao : Option Addr} {n : Nat} {l : List Int} (h : Is32 w ao n l) (hb : Below w.heap.size w w') : Is32 w' ao n l := by
  refine ⟨h.1, fun hp => ?_⟩
  obtain ⟨b, off, e, hc⟩ := h.2 hp
  exact ⟨b, off, e, fun j hj => (hb.cell (p := ⟨b, off + j, none⟩) (World.block_lt_of_cell? _ _ (hc j hj))).trans (hc j hj)⟩
theorem getD_memI {l : List Int} {j : Nat} (h : j < l.length) : l.getD j 0 ∈ l := by
  rw [List.getD_eq_getElem?_getD, List.getElem?_eq_getElem h]
  exact List.getElem_mem h
theorem take_snocI {l : List Int} {j : Nat} (h : j < l.length) : l.take (j + 1) = l.take j ++ [l.getD j 0] := by
  rw [List.take_add_one, List.getD_eq_getElem?_getD, List.getElem?_eq_getElem h]
  rfl
/-- What is known behind j rounds: the least, the greatest, the sum. -/
structure Mn (LO HI S : Int) (l : List Int) (j : Nat) : Prop where
  lo : ∀ x ∈ l.take j, LO ≤ x
  hi : ∀ x ∈ l.take j, x ≤ HI
  s : S = tot (l.take j)
  b : -2147483648 ≤ LO ∧ HI ≤ 2147483647
theorem Mn.start {l : List Int} (h : I32 l) (hp : 0 < l.length) : Mn (l.getD 0 0) (l.getD 0 0) 0 l 0 := by
  have := h _ (getD_memI hp)
  exact ⟨by intro x hx; simp at hx, by intro x hx; simp at hx, by simp [tot], by omega⟩
theorem Mn.next {LO HI S : Int} {l : List Int} {j : Nat} (h : Mn LO HI S l j) (hj : j < l.length) (hl : I32 l) : Mn (min LO (l.getD j 0)) (max HI (l.getD j 0)) (S + l.getD j 0) l (j + 1) := by
  have hx := hl _ (getD_memI hj)
  have hb := h.b
  refine ⟨fun x hm => ?_, fun x hm => ?_, ?_, by omega⟩
  · rw [take_snocI hj] at hm
    rcases List.mem_append.1 hm with hm | hm
    · have := h.lo x hm; omega
    · obtain rfl : x = l.getD j 0 := by simpa using hm
      omega
  · rw [take_snocI hj] at hm
    rcases List.mem_append.1 hm with hm | hm
    · have := h.hi x hm; omega
    · obtain rfl : x = l.getD j 0 := by simpa using hm
      omega
  · rw [take_snocI hj, tot_snoc, h.s]
theorem Mn.add {LO HI S : Int} {l : List Int} {j : Nat} (h : Mn LO HI S l j) (hj : j < l.length) (hl : I32 l) (hn : l.length ≤ 90) : wrap64 (S + l.getD j 0) = S + l.getD j 0 := by
  have hx := hl _ (getD_memI hj)
  have ht := tot_range (l.take j) (fun x hx => hl x (List.mem_of_mem_take hx))
  rw [List.length_take] at ht
  have hs := h.s
  exact wf64 (by omega) (by omega)
theorem mk_step (l : List Int) (j : Nat) (hj : j < l.length) (hn : l.length ≤ 90) (hl : I32 l) : adE (mk 0 (l.take j)) 100 j j = 0 ∧ adL (mk 0 (l.take j)) 100 j ((j : Int), false, l.getD j 0) = mk 0 (l.take (j + 1)) := by
  have e : (l.take j).length = j := by rw [List.length_take]; omega
  have h1 := mk_adE (l.take j) (by omega)
  have h2 := mk_adL (l.take j) (by omega) (l.getD j 0) (hl _ (getD_memI hj))
  rw [e] at h1 h2
  exact ⟨h1, by rw [h2, take_snocI hj]⟩
theorem mfirst (l : List Int) (n : Nat) (hln : l.length = n) (h : 0 < n) (hl : I32 l) : wrap64 (l.getD 0 0) = l.getD 0 0 ∧ Hid (Mn (l.getD 0 0) (l.getD 0 0) 0 l 0) := by
  have hj : 0 < l.length := by omega
  have hxr := hl _ (getD_memI hj)
  exact ⟨wf64 (by omega) (by omega), Mn.start hl hj⟩
theorem mround (l : List Int) (j n : Nat) (hln : l.length = n) (hn : n ≤ 90) (hlt : j < n) (hl : I32 l) {LO HI S : Int} (HM : Mn LO HI S l j) :
    decide ((j : Int) < (n : Int)) = true ∧ Hid (adE (mk 0 (l.take j)) 100 j j = 0) ∧ adL (mk 0 (l.take j)) 100 j ((j : Int), false, l.getD j 0) = mk 0 (l.take (j + 1)) ∧
      Hid (onw ((j - 1 : Nat) : Int) j = j ∧ fg ((j : Int) - 100) (mk 0 (l.take j)) = mk 0 (l.take j)) ∧ Hid (Mn (min LO (l.getD j 0)) (max HI (l.getD j 0)) (S + l.getD j 0) l (j + 1)) ∧
      Hid (wrap64 (l.getD j 0) = l.getD j 0) ∧ Hid (wrap64 (S + l.getD j 0) = S + l.getD j 0) ∧ R64 (l.getD j 0) := by
  have hj : j < l.length := by omega
  have hxr := hl _ (getD_memI hj)
  have h0 : R64 (l.getD j 0) := ⟨by omega, by omega⟩
  obtain ⟨h1, h2⟩ := mk_step l j hj (by omega) hl
  exact ⟨decide_eq_true (by omega), h1, h2, ⟨onw_to (by omega) (by omega), mk_fg _ _ 0 (by omega)⟩, HM.next hj hl, wf64 h0.1 h0.2, HM.add hj hl (by omega), h0⟩
theorem le_tot : ∀ (l : List Int) (lo : Int), (∀ x ∈ l, lo ≤ x) → lo * l.length ≤ tot l
  | [], lo, _ => by show lo * 0 ≤ 0; omega
  | x :: r, lo, h => by
    have h1 := le_tot r lo (fun y hy => h y (List.mem_cons_of_mem _ hy))
    have h2 := h x List.mem_cons_self
    rw [List.length_cons]
    show lo * ((r.length : Int) + 1) ≤ x + tot r
    rw [Int.mul_add]
    omega
theorem tot_le : ∀ (l : List Int) (hi : Int), (∀ x ∈ l, x ≤ hi) → tot l ≤ hi * l.length
  | [], hi, _ => by show 0 ≤ hi * 0; omega
  | x :: r, hi, h => by
    have h1 := tot_le r hi (fun y hy => h y (List.mem_cons_of_mem _ hy))
    have h2 := h x List.mem_cons_self
    rw [List.length_cons]
    show x + tot r ≤ hi * ((r.length : Int) + 1)
    rw [Int.mul_add]
    omega
theorem mend (l : List Int) (j n : Nat) (hln : l.length = n) (h : 0 < n) (hn : n ≤ 90) (hj : j ≤ n) (hlt : ¬ j < n) (hl : I32 l) {LO HI S : Int} (HM : Mn LO HI S l j) :
    decide ((j : Int) < (n : Int)) = false ∧ ∃ A, Hid (avgP (mk 0 l) = some A ∧ (mk 0 l).isEmpty = false) ∧ Hid (fSum (cnts (vls (mk 0 l))) = some S) ∧ decide (LO ≤ A) = true ∧ decide (A ≤ HI) = true ∧ Hid (IntKind.i64.wrap (S.tdiv n) = A) ∧ (mk 0 l).length = n ∧
      Hid (dltP (mk 0 l) = fAdd (cnt false (l.getD (n - 1) 0)) (fNeg (cnt false (l.getD 0 0)))) ∧ (R64 (l.getD (n - 1) 0) ∧ R64 (l.getD 0 0)) := by
  obtain rfl : j = n := by omega
  have ht : l.take j = l := List.take_of_length_le (by omega)
  have h1 := HM.lo
  have h2 := HM.hi
  have h3 := HM.s
  have h4 := HM.b
  rw [ht] at h1 h2 h3
  have ha := mk_avg l hl (by omega) (by omega)
  have hb := tdiv_between (tot l) LO HI l.length (by omega) (le_tot l LO h1) (tot_le l HI h2)
  rw [hln] at ha hb
  have g1 := hl _ (getD_memI (l := l) (j := j - 1) (by omega))
  have g0 := hl _ (getD_memI (l := l) (j := 0) (by omega))
  have he : (mk 0 l).isEmpty = false := by
    cases l with
    | nil => simp at hln; omega
    | cons x r => rfl
  refine ⟨decide_eq_false (by omega), (tot l).tdiv j, ⟨ha, he⟩, ?_, decide_eq_true hb.1, decide_eq_true hb.2, ?_, (mk_len l 0).trans hln, ?_, ⟨by omega, by omega⟩, ⟨by omega, by omega⟩⟩
  · rw [h3]
    exact mk_fSum l hl (by omega)
  · rw [h3]
    exact wI (by omega) (by omega)
  · show dltP (mk 0 l) = _
    unfold dltP
    rw [mk_lst l (by omega), mk_get l 0 0 (by omega), hln]
set_option maxRecDepth 20000 in
set_option maxHeartbeats 8000000 in
theorem means_any (ao : Option Addr) (n cap : Nat) (l : List Int) (w : World) (hm : n ≤ maxLen) (hs : Is32 w ao n l) (hl : I32 l) :
    Calls Try.prog 7 #[.slice ao n cap] w fun e w' => e = .returned (.bool true) ∧ Below w.heap.size w w' := by
  unfold maxLen at hm
  rcases (by omega : n = 0 ∨ 90 < n ∨ (0 < n ∧ n ≤ 90)) with h | h | ⟨h, h'⟩
  · subst h
    go_enter Try.func7, Try.ntmps7
    go_wp2_with fail
    refine (known_any _).mono ?_
    rintro e w1 ⟨rfl, hb1⟩
    go_wp2
    go_ret
    exact ⟨rfl, hb1⟩
  · have d0 : ((n : Int) == 0) = false := by rw [beq_eq_false_iff_ne]; omega
    have d1 : decide ((90 : Int) < (n : Int)) = true := decide_eq_true (by omega)
    go_enter Try.func7, Try.ntmps7
    go_wp2_with fail
    refine (known_any _).mono ?_
    rintro e w1 ⟨rfl, hb1⟩
    go_wp2
    go_ret
    exact ⟨rfl, hb1⟩
  · have d0 : ((n : Int) == 0) = false := by rw [beq_eq_false_iff_ne]; omega
    have d1 : decide ((90 : Int) < (n : Int)) = false := decide_eq_false (by omega)
    obtain ⟨hln, hcell⟩ := hs
    obtain ⟨vb, off, rfl, hc⟩ := hcell h
    have HL : Hid (l.length = n) := hln
    go_enter Try.func7, Try.ntmps7
    go_wp2_with fail
    refine (known_any _).mono ?_
    rintro e w1 ⟨rfl, hb1⟩
    go_wp2_with fail
    refine (new_st 100 _).mono ?_
    rw [show clamp 100 = 100 by decide]
    rintro e w2 ⟨rfl, hs2, hb2⟩
    have hbb : w.heap.size ≤ w1.heap.size := hb1.size
    have hb2' := Below.chain hb1 hb2
    have hvl : vb < w.heap.size := World.block_lt_of_cell? _ _ (hc 0 h)
    have HC : Hid (∀ W, Below w.heap.size w W → ∀ j, j < n → W.cell? ⟨vb, off + j, none⟩ = some (.int .i32 (l.getD j 0))) := fun W hW j hj => (hW.cell (p := ⟨vb, off + j, none⟩) hvl).trans (hc j hj)
    generalize w1.heap.size = b at *
    clear hb1 hb2 hc hcell
    have x0 := HC.out _ hb2' 0 h
    rw [Nat.add_zero] at x0
    obtain ⟨w0, H0⟩ := mfirst l n HL.out h hl
    generalize l.getD 0 0 = v0 at *
    go_wp2_with fail
    go_quiet (fail)
    generalize hq : w2.drewN _ = w3
    have hs3 : St w3 b [] 100 0 := by rw [← hq]; exact hs2.later (below_drewN (Below.refl _ _) _)
    have hb3 : Below w.heap.size w w3 := by rw [← hq]; exact below_drewN hb2' _
    simp only [w0]
    clear hq hs2 hb2' x0 w0
    go_wp2_with fail
    go_loopw [7, 4, 5, 6] (fun t p q s wr => ∃ (j : Nat) (LO HI S : Int), j ≤ n ∧ t = .int .i64 j ∧ p = .int .i64 LO ∧ q = .int .i64 HI ∧ s = .int .i64 S ∧ Hid (Mn LO HI S l j) ∧ St wr b (mk 0 (l.take j)) 100 ((j - 1 : Nat) : Int) ∧ Below w.heap.size w wr) (fun t _ _ _ _ => n - (intOf t).toNat)
    case atStart => exact ⟨0, v0, v0, 0, by omega, rfl, rfl, rfl, rfl, H0, hs3, hb3⟩
    case round =>
      obtain ⟨j, LO, HI, S, hj, rfl, rfl, rfl, rfl, HM, hst, hb⟩ := hrel
      by_cases hlt : j < n
      · have hx := HC.out _ hb j hlt
        obtain ⟨hd, HE, hL, HO, HNX, HW, HS, hxr⟩ := mround l j n HL.out h' hlt hl HM.out
        have hadv := adv_st b _ _ _ (j : Int) wr hst
        rw [HO.out.1, HO.out.2] at hadv
        clear hst HO
        have hwx := HW.out
        generalize l.getD j 0 = x at *
        go_wp2_with fail
        refine hadv.mono ?_
        rintro e w4 ⟨rfl, hs4, hg4⟩
        have hb4 := grown_above hb hg4 hb.size hbb
        have hx4 : w4.cell? ⟨vb, off + j, none⟩ = some (.int .i32 x) := (grown_cell hg4 hx (by simp; omega))
        have hadd := add_st b _ _ _ ((j : Int), false, x) w4 hs4 hxr
        rw [hL, show ((j : Int), false, x).1 = (j : Int) from rfl, HE.out] at hadd
        clear hadv hg4 hx
        go_wp2_with fail
        refine hadd.mono ?_
        rintro e w5 ⟨rfl, hs5, hg5⟩
        have hb5 := grown_above hb4 hg5 hb4.size hbb
        have hx5 : w5.cell? ⟨vb, off + j, none⟩ = some (.int .i32 x) := (grown_cell hg5 hx4 (by simp; omega))
        clear hadd hg5 hx4 hs4
        have hws := HS.out
        go_wp2_with fail
        go_quiet (fail)
        generalize hq : w5.drewN _ = w6
        have hs6 : St w6 b (mk 0 (l.take (j + 1))) 100 ((j + 1 - 1 : Nat) : Int) := by rw [← hq]; exact hs5.later (below_drewN (Below.refl _ _) _)
        have hb6 : Below w.heap.size w w6 := by rw [← hq]; exact below_drewN hb5 _
        clear hq hs5 hb5 hx5 hws hwx hL HE HW
        go_wp2
        go_roundw
        case rel => exact ⟨j + 1, min LO x, max HI x, S + x, hlt, by go_num, rfl, rfl, by rw [HS.out], HNX, hs6, hb6⟩
        case measure => simp [intOf]; omega
      · have hst' : St wr b (mk 0 l) 100 ((n - 1 : Nat) : Int) := by
          have := hst
          rw [show j = n by omega, List.take_of_length_le (by rw [HL.out]; exact Nat.le_refl _)] at this
          exact this
        obtain ⟨hd, A, HAv, HSum, f1, f2, HT, hlen, hdl, hrr⟩ := mend l j n HL.out h h' hj hlt hl HM.out
        have hav : ∀ W, St W b (mk 0 l) 100 ((n - 1 : Nat) : Int) → Calls Try.prog 15 #[.pointer (some ⟨b, 0, none⟩)] W fun e w' => e = .returned (.tuple #[.agg #[.bool false, .int .i64 A], .bool true]) ∧ Below W.heap.size W w' := by
          intro W hW
          have := avg_any b _ _ _ W hW.m hW.f.rg
          rw [HAv.out.1, HAv.out.2] at this
          exact this
        have hde := fun W (hW : St W b (mk 0 l) 100 ((n - 1 : Nat) : Int)) => delta_any b _ _ _ W hW.m hW.f.rg
        rw [hlen] at hde
        have hsu : ∀ W, St W b (mk 0 l) 100 ((n - 1 : Nat) : Int) → Calls Try.prog 18 #[.pointer (some ⟨b, 0, none⟩)] W fun e w' => e = .returned (.agg #[.bool false, .int .i64 S]) ∧ Below W.heap.size W w' := by
          intro W hW
          have := sumR_any b _ _ _ W hW.m hW.f.rg
          rw [HSum.out] at this
          exact this
        clear hst HSum HAv hlen
        go_wp2_with fail
        refine (hav _ hst').mono ?_
        rintro e w4 ⟨rfl, hb4⟩
        have hx4 := Box.new w4 false A
        have hs4 := (hst'.later hb4).later (bal (Below.refl _ _) (.cells #[.bool false, .int .i64 A] 31))
        have hb4' := bal (Below.chain hb hb4) (.cells #[.bool false, .int .i64 A] 31)
        clear hst' hb4 hb hav
        by_cases h2 : n < 2
        · rw [if_pos h2] at hde
          have d2 : decide ((1 : Int) < (n : Int)) = false := decide_eq_false (by omega)
          have EA : Hid (IntKind.i64.wrap ((n : Int) - 1) = ((n - 1 : Nat) : Int)) := by show _ = _; rw [wI (by omega) (by omega)]; omega
          have EB : Hid (IntKind.i64.wrap (S.tdiv n) = A) := HT
          have EC : Hid (IntKind.i64.wrap (l.getD (n - 1) 0) = l.getD (n - 1) 0) := wI hrr.1.1 hrr.1.2
          have ED : Hid (IntKind.i64.wrap (l.getD 0 0) = l.getD 0 0) := wI hrr.2.1 hrr.2.2
          have HV : Hid (l.getD (n - 1) 0 = l.getD (n - 1) 0 ∧ l.getD 0 0 = l.getD 0 0) := ⟨rfl, rfl⟩
          have hnn : n - 1 < n := by omega
          go_wp2_with fail
          generalize w4.alloc (.cells #[.bool false, .int .i64 A] 31) = w5 at *
          refine (hde _ hs4).mono ?_
          rintro e w6 ⟨rfl, hb6⟩
          have hx6 := (hx4.later hb6).later (bal (Below.refl _ _) (.cells #[.bool false, .int .i64 0] 31))
          have hy6 := Box.new w6 false 0
          have hs6 := (hs4.later hb6).later (bal (Below.refl _ _) (.cells #[.bool false, .int .i64 0] 31))
          have hb6' := bal (Below.chain hb4' hb6) (.cells #[.bool false, .int .i64 0] 31)
          go_wp2_with fail
          generalize w6.alloc (.cells #[.bool false, .int .i64 0] 31) = w7 at *
          have hb8 : Below w.heap.size w w7.drew := hb6'.trans (Below.refl _ _).drew
          have hx8 : Box w7.drew w4.heap.size false A := hx6.later (Below.refl _ _).drew
          have hy8 : Box w7.drew w6.heap.size false 0 := hy6.later (Below.refl _ _).drew
          have hs8 := hs6.later (Below.refl _ _).drew
          have z1 := HC.out _ hb8 (n - 1) (by omega)
          have z0 := HC.out _ hb8 0 h
          rw [Nat.add_zero] at z0
          generalize hvl1 : l.getD (n - 1) 0 = vl at *
          have HV1 : Hid (l.getD (n - 1) 0 = vl) := hvl1
          clear hvl1
          generalize hv01 : l.getD 0 0 = v0 at *
          have HV2 : Hid (l.getD 0 0 = v0) := hv01
          clear hv01
          have HV : Hid (l.getD (n - 1) 0 = vl ∧ l.getD 0 0 = v0) := ⟨HV1.out, HV2.out⟩
          clear hs4 hx4 hb6 hs6 hx6 hy6 hb4'
          have hS0 : (fun W : World => W.cell? ⟨w4.heap.size, 1, none⟩ = some (Value.int .i64 A) ∧ W.cell? ⟨w6.heap.size, 0, none⟩ = some (Value.bool false) ∧ W.cell? ⟨w6.heap.size, 1, none⟩ = some (Value.int .i64 0) ∧ W.cell? ⟨vb, off + (n - 1), none⟩ = some (Value.int .i32 vl) ∧ W.cell? ⟨vb, off, none⟩ = some (Value.int .i32 v0)) _ := ⟨hx8.c1, hy8.c0, hy8.c1, z1, z0⟩
          refine wp_region_noPanic ?_
          refine wp_region_held_drew (S := fun W : World => W.cell? ⟨w4.heap.size, 1, none⟩ = some (Value.int .i64 A) ∧ W.cell? ⟨w6.heap.size, 0, none⟩ = some (Value.bool false) ∧ W.cell? ⟨w6.heap.size, 1, none⟩ = some (Value.int .i64 0) ∧ W.cell? ⟨vb, off + (n - 1), none⟩ = some (Value.int .i32 vl) ∧ W.cell? ⟨vb, off, none⟩ = some (Value.int .i32 v0)) (by kernel_rfl) hS0 (fun _ => ?_)
          refine take_at 0 (some 86) (.bool true) rfl rfl (by kernel_rfl) (by kernel_rfl) (by kernel_rfl) (fun _ _ _ h => h) (by rfl) (fun W hSw => by obtain ⟨q0, q1, q2, q3, q4⟩ := hSw; go_simp <;> first | exact EA.out | exact (if_neg (by omega)).trans (by rw [EB.out]) | exact EC.out | exact ED.out) hS0 ?_
          simp only [Act.put, List.setIfInBounds_toArray, List.set_cons_zero, List.set_cons_succ]
          refine take_at 1 (some 87) (.bool true) rfl rfl (by kernel_rfl) (by kernel_rfl) (by kernel_rfl) (fun _ _ _ h => h) (by rfl) (fun W hSw => by obtain ⟨q0, q1, q2, q3, q4⟩ := hSw; go_simp <;> first | exact EA.out | exact (if_neg (by omega)).trans (by rw [EB.out]) | exact EC.out | exact ED.out) hS0 ?_
          simp only [Act.put, List.setIfInBounds_toArray, List.set_cons_zero, List.set_cons_succ]
          refine take_at 2 (some 88) (.pointer (some ⟨w4.heap.size, 1, none⟩)) rfl rfl (by kernel_rfl) (by kernel_rfl) (by kernel_rfl) (fun _ _ _ h => h) (by rfl) (fun W hSw => by obtain ⟨q0, q1, q2, q3, q4⟩ := hSw; go_simp <;> first | exact EA.out | exact (if_neg (by omega)).trans (by rw [EB.out]) | exact EC.out | exact ED.out) hS0 ?_
          simp only [Act.put, List.setIfInBounds_toArray, List.set_cons_zero, List.set_cons_succ]
          refine take_at 3 (some 89) (.int .i64 A) rfl rfl (by kernel_rfl) (by kernel_rfl) (by kernel_rfl) (fun _ _ _ h => h) (by rfl) (fun W hSw => by obtain ⟨q0, q1, q2, q3, q4⟩ := hSw; go_simp <;> first | exact EA.out | exact (if_neg (by omega)).trans (by rw [EB.out]) | exact EC.out | exact ED.out) hS0 ?_
          simp only [Act.put, List.setIfInBounds_toArray, List.set_cons_zero, List.set_cons_succ]
          refine take_at 4 (some 90) (.int .i64 LO) rfl rfl (by kernel_rfl) (by kernel_rfl) (by kernel_rfl) (fun _ _ _ h => h) (by rfl) (fun W hSw => by obtain ⟨q0, q1, q2, q3, q4⟩ := hSw; go_simp <;> first | exact EA.out | exact (if_neg (by omega)).trans (by rw [EB.out]) | exact EC.out | exact ED.out) hS0 ?_
          simp only [Act.put, List.setIfInBounds_toArray, List.set_cons_zero, List.set_cons_succ]
          refine take_at 5 (some 91) (.bool true) rfl rfl (by kernel_rfl) (by kernel_rfl) (by kernel_rfl) (fun _ _ _ h => h) (by rfl) (fun W hSw => by obtain ⟨q0, q1, q2, q3, q4⟩ := hSw; go_simp <;> first | exact EA.out | exact (if_neg (by omega)).trans (by rw [EB.out]) | exact EC.out | exact ED.out) hS0 ?_
          simp only [Act.put, List.setIfInBounds_toArray, List.set_cons_zero, List.set_cons_succ]
          refine take_at 6 (some 92) (.bool true) rfl rfl (by kernel_rfl) (by kernel_rfl) (by kernel_rfl) (fun _ _ _ h => h) (by rfl) (fun W hSw => by obtain ⟨q0, q1, q2, q3, q4⟩ := hSw; go_simp <;> first | exact EA.out | exact (if_neg (by omega)).trans (by rw [EB.out]) | exact EC.out | exact ED.out) hS0 ?_
          simp only [Act.put, List.setIfInBounds_toArray, List.set_cons_zero, List.set_cons_succ]
          refine take_at 7 (some 93) (.bool true) rfl rfl (by kernel_rfl) (by kernel_rfl) (by kernel_rfl) (fun _ _ _ h => h) (by rfl) (fun W hSw => by obtain ⟨q0, q1, q2, q3, q4⟩ := hSw; go_simp <;> first | exact EA.out | exact (if_neg (by omega)).trans (by rw [EB.out]) | exact EC.out | exact ED.out) hS0 ?_
          simp only [Act.put, List.setIfInBounds_toArray, List.set_cons_zero, List.set_cons_succ]
          refine take_at 8 (some 94) (.pointer (some ⟨w4.heap.size, 1, none⟩)) rfl rfl (by kernel_rfl) (by kernel_rfl) (by kernel_rfl) (fun _ _ _ h => h) (by rfl) (fun W hSw => by obtain ⟨q0, q1, q2, q3, q4⟩ := hSw; go_simp <;> first | exact EA.out | exact (if_neg (by omega)).trans (by rw [EB.out]) | exact EC.out | exact ED.out) hS0 ?_
          simp only [Act.put, List.setIfInBounds_toArray, List.set_cons_zero, List.set_cons_succ]
          refine take_at 9 (some 95) (.int .i64 A) rfl rfl (by kernel_rfl) (by kernel_rfl) (by kernel_rfl) (fun _ _ _ h => h) (by rfl) (fun W hSw => by obtain ⟨q0, q1, q2, q3, q4⟩ := hSw; go_simp <;> first | exact EA.out | exact (if_neg (by omega)).trans (by rw [EB.out]) | exact EC.out | exact ED.out) hS0 ?_
          simp only [Act.put, List.setIfInBounds_toArray, List.set_cons_zero, List.set_cons_succ]
          refine take_at 10 (some 96) (.int .i64 HI) rfl rfl (by kernel_rfl) (by kernel_rfl) (by kernel_rfl) (fun _ _ _ h => h) (by rfl) (fun W hSw => by obtain ⟨q0, q1, q2, q3, q4⟩ := hSw; go_simp <;> first | exact EA.out | exact (if_neg (by omega)).trans (by rw [EB.out]) | exact EC.out | exact ED.out) hS0 ?_
          simp only [Act.put, List.setIfInBounds_toArray, List.set_cons_zero, List.set_cons_succ]
          refine take_at 11 (some 97) (.bool true) rfl rfl (by kernel_rfl) (by kernel_rfl) (by kernel_rfl) (fun _ _ _ h => h) (by rfl) (fun W hSw => by obtain ⟨q0, q1, q2, q3, q4⟩ := hSw; go_simp <;> first | exact EA.out | exact (if_neg (by omega)).trans (by rw [EB.out]) | exact EC.out | exact ED.out) hS0 ?_
          simp only [Act.put, List.setIfInBounds_toArray, List.set_cons_zero, List.set_cons_succ]
          refine take_at 12 (some 98) (.bool true) rfl rfl (by kernel_rfl) (by kernel_rfl) (by kernel_rfl) (fun _ _ _ h => h) (by rfl) (fun W hSw => by obtain ⟨q0, q1, q2, q3, q4⟩ := hSw; go_simp <;> first | exact EA.out | exact (if_neg (by omega)).trans (by rw [EB.out]) | exact EC.out | exact ED.out) hS0 ?_
          simp only [Act.put, List.setIfInBounds_toArray, List.set_cons_zero, List.set_cons_succ]
          refine take_at 13 (some 99) (.bool true) rfl rfl (by kernel_rfl) (by kernel_rfl) (by kernel_rfl) (fun _ _ _ h => h) (by rfl) (fun W hSw => by obtain ⟨q0, q1, q2, q3, q4⟩ := hSw; go_simp <;> first | exact EA.out | exact (if_neg (by omega)).trans (by rw [EB.out]) | exact EC.out | exact ED.out) hS0 ?_
          simp only [Act.put, List.setIfInBounds_toArray, List.set_cons_zero, List.set_cons_succ]
          refine take_at 14 (some 100) (.pointer (some ⟨w4.heap.size, 1, none⟩)) rfl rfl (by kernel_rfl) (by kernel_rfl) (by kernel_rfl) (fun _ _ _ h => h) (by rfl) (fun W hSw => by obtain ⟨q0, q1, q2, q3, q4⟩ := hSw; go_simp <;> first | exact EA.out | exact (if_neg (by omega)).trans (by rw [EB.out]) | exact EC.out | exact ED.out) hS0 ?_
          simp only [Act.put, List.setIfInBounds_toArray, List.set_cons_zero, List.set_cons_succ]
          refine take_at 15 (some 101) (.int .i64 A) rfl rfl (by kernel_rfl) (by kernel_rfl) (by kernel_rfl) (fun _ _ _ h => h) (by rfl) (fun W hSw => by obtain ⟨q0, q1, q2, q3, q4⟩ := hSw; go_simp <;> first | exact EA.out | exact (if_neg (by omega)).trans (by rw [EB.out]) | exact EC.out | exact ED.out) hS0 ?_
          simp only [Act.put, List.setIfInBounds_toArray, List.set_cons_zero, List.set_cons_succ]
          refine take_at 16 (some 102) (.int .i64 S) rfl rfl (by kernel_rfl) (by kernel_rfl) (by kernel_rfl) (fun _ _ _ h => h) (by rfl) (fun W hSw => by obtain ⟨q0, q1, q2, q3, q4⟩ := hSw; go_simp <;> first | exact EA.out | exact (if_neg (by omega)).trans (by rw [EB.out]) | exact EC.out | exact ED.out) hS0 ?_
          simp only [Act.put, List.setIfInBounds_toArray, List.set_cons_zero, List.set_cons_succ]
          refine take_at 17 (some 103) (.slice (some ⟨vb, off, none⟩) n cap) rfl rfl (by kernel_rfl) (by kernel_rfl) (by kernel_rfl) (fun _ _ _ h => h) (by rfl) (fun W hSw => by obtain ⟨q0, q1, q2, q3, q4⟩ := hSw; go_simp <;> first | exact EA.out | exact (if_neg (by omega)).trans (by rw [EB.out]) | exact EC.out | exact ED.out) hS0 ?_
          simp only [Act.put, List.setIfInBounds_toArray, List.set_cons_zero, List.set_cons_succ]
          refine take_at 18 (some 104) (.int .i64 n) rfl rfl (by kernel_rfl) (by kernel_rfl) (by kernel_rfl) (fun _ _ _ h => h) (by rfl) (fun W hSw => by obtain ⟨q0, q1, q2, q3, q4⟩ := hSw; go_simp <;> first | exact EA.out | exact (if_neg (by omega)).trans (by rw [EB.out]) | exact EC.out | exact ED.out) hS0 ?_
          simp only [Act.put, List.setIfInBounds_toArray, List.set_cons_zero, List.set_cons_succ]
          refine take_at 19 (some 105) (.int .i64 A) rfl rfl (by kernel_rfl) (by kernel_rfl) (by kernel_rfl) (fun _ _ _ h => h) (by rfl) (fun W hSw => by obtain ⟨q0, q1, q2, q3, q4⟩ := hSw; go_simp <;> first | exact EA.out | exact (if_neg (by omega)).trans (by rw [EB.out]) | exact EC.out | exact ED.out) hS0 ?_
          simp only [Act.put, List.setIfInBounds_toArray, List.set_cons_zero, List.set_cons_succ]
          refine take_at 20 (some 106) (.bool true) rfl rfl (by kernel_rfl) (by kernel_rfl) (by kernel_rfl) (fun _ _ _ h => h) (by rfl) (fun W hSw => by obtain ⟨q0, q1, q2, q3, q4⟩ := hSw; go_simp <;> first | exact EA.out | exact (if_neg (by omega)).trans (by rw [EB.out]) | exact EC.out | exact ED.out) hS0 ?_
          simp only [Act.put, List.setIfInBounds_toArray, List.set_cons_zero, List.set_cons_succ]
          refine take_at 21 (some 107) (.bool true) rfl rfl (by kernel_rfl) (by kernel_rfl) (by kernel_rfl) (fun _ _ _ h => h) (by rfl) (fun W hSw => by obtain ⟨q0, q1, q2, q3, q4⟩ := hSw; go_simp <;> first | exact EA.out | exact (if_neg (by omega)).trans (by rw [EB.out]) | exact EC.out | exact ED.out) hS0 ?_
          simp only [Act.put, List.setIfInBounds_toArray, List.set_cons_zero, List.set_cons_succ]
          refine take_at 22 (some 108) (.bool true) rfl rfl (by kernel_rfl) (by kernel_rfl) (by kernel_rfl) (fun _ _ _ h => h) (by rfl) (fun W hSw => by obtain ⟨q0, q1, q2, q3, q4⟩ := hSw; go_simp <;> first | exact EA.out | exact (if_neg (by omega)).trans (by rw [EB.out]) | exact EC.out | exact ED.out) hS0 ?_
          simp only [Act.put, List.setIfInBounds_toArray, List.set_cons_zero, List.set_cons_succ]
          refine take_at 23 (some 109) (.pointer (some ⟨b, 0, none⟩)) rfl rfl (by kernel_rfl) (by kernel_rfl) (by kernel_rfl) (fun _ _ _ h => h) (by rfl) (fun W hSw => by obtain ⟨q0, q1, q2, q3, q4⟩ := hSw; go_simp <;> first | exact EA.out | exact (if_neg (by omega)).trans (by rw [EB.out]) | exact EC.out | exact ED.out) hS0 ?_
          simp only [Act.put, List.setIfInBounds_toArray, List.set_cons_zero, List.set_cons_succ]
          refine take_at 24 (some 110) (.pointer (some ⟨b, 0, none⟩)) rfl rfl (by kernel_rfl) (by kernel_rfl) (by kernel_rfl) (fun _ _ _ h => h) (by rfl) (fun W hSw => by obtain ⟨q0, q1, q2, q3, q4⟩ := hSw; go_simp <;> first | exact EA.out | exact (if_neg (by omega)).trans (by rw [EB.out]) | exact EC.out | exact ED.out) hS0 ?_
          simp only [Act.put, List.setIfInBounds_toArray, List.set_cons_zero, List.set_cons_succ]
          refine take_at 25 (some 111) (.pointer (some ⟨b, 0, none⟩)) rfl rfl (by kernel_rfl) (by kernel_rfl) (by kernel_rfl) (fun _ _ _ h => h) (by rfl) (fun W hSw => by obtain ⟨q0, q1, q2, q3, q4⟩ := hSw; go_simp <;> first | exact EA.out | exact (if_neg (by omega)).trans (by rw [EB.out]) | exact EC.out | exact ED.out) hS0 ?_
          simp only [Act.put, List.setIfInBounds_toArray, List.set_cons_zero, List.set_cons_succ]
          refine take_at 27 (some 113) (.int .i64 S) rfl rfl (by kernel_rfl) (by kernel_rfl) (by kernel_rfl) (fun _ _ _ h => h) (by rfl) (fun W hSw => by obtain ⟨q0, q1, q2, q3, q4⟩ := hSw; go_simp <;> first | exact EA.out | exact (if_neg (by omega)).trans (by rw [EB.out]) | exact EC.out | exact ED.out) hS0 ?_
          simp only [Act.put, List.setIfInBounds_toArray, List.set_cons_zero, List.set_cons_succ]
          refine take_at 28 (some 114) (.agg #[.bool false, .int .i64 S]) rfl rfl (by kernel_rfl) (by kernel_rfl) (by kernel_rfl) (fun _ _ _ h => h) (by rfl) (fun W hSw => by obtain ⟨q0, q1, q2, q3, q4⟩ := hSw; go_simp <;> first | exact EA.out | exact (if_neg (by omega)).trans (by rw [EB.out]) | exact EC.out | exact ED.out) hS0 ?_
          simp only [Act.put, List.setIfInBounds_toArray, List.set_cons_zero, List.set_cons_succ]
          refine wpAnyH_ready (rs := [26]) (by kernel_rfl) (by simp) ?_
          refine AllReadyH.cons rfl (fun K hK => ?_) AllReadyH.nil
          go_simp
          refine (hsu _ hs8).mono ?_
          rintro e w9 ⟨rfl, hb9⟩
          have hx9 := hx8.later hb9
          have hy9 := hy8.later hb9
          have hb9' := Below.chain hb8 hb9
          have z9 := HC.out _ hb9' (n - 1) (by omega)
          have y9 := HC.out _ hb9' 0 h
          rw [HV.out.1] at z9
          rw [HV.out.2, Nat.add_zero] at y9
          have hS1 := (⟨hx9.c1, hy9.c0, hy9.c1, z9, y9⟩ : (fun W : World => W.cell? ⟨w4.heap.size, 1, none⟩ = some (Value.int .i64 A) ∧ W.cell? ⟨w6.heap.size, 0, none⟩ = some (Value.bool false) ∧ W.cell? ⟨w6.heap.size, 1, none⟩ = some (Value.int .i64 0) ∧ W.cell? ⟨vb, off + (n - 1), none⟩ = some (Value.int .i32 vl) ∧ W.cell? ⟨vb, off, none⟩ = some (Value.int .i32 v0)) w9)
          refine hK.out _ _ hS1 (fun _ => ?_)
          clear hK K
          refine take_at 29 (some 115) (.bool true) rfl rfl (by kernel_rfl) (by kernel_rfl) (by kernel_rfl) (fun _ _ _ h => h) (by rfl) (fun W hSw => by obtain ⟨q0, q1, q2, q3, q4⟩ := hSw; go_simp <;> first | exact EA.out | exact (if_neg (by omega)).trans (by rw [EB.out]) | exact EC.out | exact ED.out) hS1 ?_
          simp only [Act.put, List.setIfInBounds_toArray, List.set_cons_zero, List.set_cons_succ]
          refine take_at 30 (some 116) (.bool true) rfl rfl (by kernel_rfl) (by kernel_rfl) (by kernel_rfl) (fun _ _ _ h => h) (by rfl) (fun W hSw => by obtain ⟨q0, q1, q2, q3, q4⟩ := hSw; go_simp <;> first | exact EA.out | exact (if_neg (by omega)).trans (by rw [EB.out]) | exact EC.out | exact ED.out) hS1 ?_
          simp only [Act.put, List.setIfInBounds_toArray, List.set_cons_zero, List.set_cons_succ]
          refine take_at 31 (some 117) (.bool true) rfl rfl (by kernel_rfl) (by kernel_rfl) (by kernel_rfl) (fun _ _ _ h => h) (by rfl) (fun W hSw => by obtain ⟨q0, q1, q2, q3, q4⟩ := hSw; go_simp <;> first | exact EA.out | exact (if_neg (by omega)).trans (by rw [EB.out]) | exact EC.out | exact ED.out) hS1 ?_
          simp only [Act.put, List.setIfInBounds_toArray, List.set_cons_zero, List.set_cons_succ]
          refine take_at 32 (some 118) (.bool false) rfl rfl (by kernel_rfl) (by kernel_rfl) (by kernel_rfl) (fun _ _ _ h => h) (by rfl) (fun W hSw => by obtain ⟨q0, q1, q2, q3, q4⟩ := hSw; go_simp <;> first | exact EA.out | exact (if_neg (by omega)).trans (by rw [EB.out]) | exact EC.out | exact ED.out) hS1 ?_
          simp only [Act.put, List.setIfInBounds_toArray, List.set_cons_zero, List.set_cons_succ]
          refine take_at 33 (some 119) (.slice (some ⟨vb, off, none⟩) n cap) rfl rfl (by kernel_rfl) (by kernel_rfl) (by kernel_rfl) (fun _ _ _ h => h) (by rfl) (fun W hSw => by obtain ⟨q0, q1, q2, q3, q4⟩ := hSw; go_simp <;> first | exact EA.out | exact (if_neg (by omega)).trans (by rw [EB.out]) | exact EC.out | exact ED.out) hS1 ?_
          simp only [Act.put, List.setIfInBounds_toArray, List.set_cons_zero, List.set_cons_succ]
          refine take_at 34 (some 120) (.int .i64 n) rfl rfl (by kernel_rfl) (by kernel_rfl) (by kernel_rfl) (fun _ _ _ h => h) (by rfl) (fun W hSw => by obtain ⟨q0, q1, q2, q3, q4⟩ := hSw; go_simp <;> first | exact EA.out | exact (if_neg (by omega)).trans (by rw [EB.out]) | exact EC.out | exact ED.out) hS1 ?_
          simp only [Act.put, List.setIfInBounds_toArray, List.set_cons_zero, List.set_cons_succ]
          refine take_at 35 (some 121) (.bool false) rfl rfl (by kernel_rfl) (by kernel_rfl) (by kernel_rfl) (fun _ _ _ h => h) (by rfl) (fun W hSw => by obtain ⟨q0, q1, q2, q3, q4⟩ := hSw; go_simp <;> first | exact EA.out | exact (if_neg (by omega)).trans (by rw [EB.out]) | exact EC.out | exact ED.out) hS1 ?_
          simp only [Act.put, List.setIfInBounds_toArray, List.set_cons_zero, List.set_cons_succ]
          refine take_at 36 (some 122) (.bool true) rfl rfl (by kernel_rfl) (by kernel_rfl) (by kernel_rfl) (fun _ _ _ h => h) (by rfl) (fun W hSw => by obtain ⟨q0, q1, q2, q3, q4⟩ := hSw; go_simp <;> first | exact EA.out | exact (if_neg (by omega)).trans (by rw [EB.out]) | exact EC.out | exact ED.out) hS1 ?_
          simp only [Act.put, List.setIfInBounds_toArray, List.set_cons_zero, List.set_cons_succ]
          refine take_at 37 (some 123) (.bool true) rfl rfl (by kernel_rfl) (by kernel_rfl) (by kernel_rfl) (fun _ _ _ h => h) (by rfl) (fun W hSw => by obtain ⟨q0, q1, q2, q3, q4⟩ := hSw; go_simp <;> first | exact EA.out | exact (if_neg (by omega)).trans (by rw [EB.out]) | exact EC.out | exact ED.out) hS1 ?_
          simp only [Act.put, List.setIfInBounds_toArray, List.set_cons_zero, List.set_cons_succ]
          refine take_at 38 (some 124) (.bool true) rfl rfl (by kernel_rfl) (by kernel_rfl) (by kernel_rfl) (fun _ _ _ h => h) (by rfl) (fun W hSw => by obtain ⟨q0, q1, q2, q3, q4⟩ := hSw; go_simp <;> first | exact EA.out | exact (if_neg (by omega)).trans (by rw [EB.out]) | exact EC.out | exact ED.out) hS1 ?_
          simp only [Act.put, List.setIfInBounds_toArray, List.set_cons_zero, List.set_cons_succ]
          refine take_at 39 (some 125) (.bool false) rfl rfl (by kernel_rfl) (by kernel_rfl) (by kernel_rfl) (fun _ _ _ h => h) (by rfl) (fun W hSw => by obtain ⟨q0, q1, q2, q3, q4⟩ := hSw; go_simp <;> first | exact EA.out | exact (if_neg (by omega)).trans (by rw [EB.out]) | exact EC.out | exact ED.out) hS1 ?_
          simp only [Act.put, List.setIfInBounds_toArray, List.set_cons_zero, List.set_cons_succ]
          refine take_at 40 (some 126) (.bool true) rfl rfl (by kernel_rfl) (by kernel_rfl) (by kernel_rfl) (fun _ _ _ h => h) (by rfl) (fun W hSw => by obtain ⟨q0, q1, q2, q3, q4⟩ := hSw; go_simp <;> first | exact EA.out | exact (if_neg (by omega)).trans (by rw [EB.out]) | exact EC.out | exact ED.out) hS1 ?_
          simp only [Act.put, List.setIfInBounds_toArray, List.set_cons_zero, List.set_cons_succ]
          refine take_at 41 (some 127) (.bool true) rfl rfl (by kernel_rfl) (by kernel_rfl) (by kernel_rfl) (fun _ _ _ h => h) (by rfl) (fun W hSw => by obtain ⟨q0, q1, q2, q3, q4⟩ := hSw; go_simp <;> first | exact EA.out | exact (if_neg (by omega)).trans (by rw [EB.out]) | exact EC.out | exact ED.out) hS1 ?_
          simp only [Act.put, List.setIfInBounds_toArray, List.set_cons_zero, List.set_cons_succ]
          refine skip_at 42 (some 128) rfl rfl (by kernel_rfl) (by kernel_rfl) (by kernel_rfl) (fun _ _ _ h => h) (by rfl) hS1 ?_
          simp only [Act.put, List.setIfInBounds_toArray, List.set_cons_zero, List.set_cons_succ]
          refine skip_at 43 (some 129) rfl rfl (by kernel_rfl) (by kernel_rfl) (by kernel_rfl) (fun _ _ _ h => h) (by rfl) hS1 ?_
          simp only [Act.put, List.setIfInBounds_toArray, List.set_cons_zero, List.set_cons_succ]
          refine skip_at 44 (some 130) rfl rfl (by kernel_rfl) (by kernel_rfl) (by kernel_rfl) (fun _ _ _ h => h) (by rfl) hS1 ?_
          simp only [Act.put, List.setIfInBounds_toArray, List.set_cons_zero, List.set_cons_succ]
          refine skip_at 45 (some 131) rfl rfl (by kernel_rfl) (by kernel_rfl) (by kernel_rfl) (fun _ _ _ h => h) (by rfl) hS1 ?_
          simp only [Act.put, List.setIfInBounds_toArray, List.set_cons_zero, List.set_cons_succ]
          refine skip_at 46 (some 132) rfl rfl (by kernel_rfl) (by kernel_rfl) (by kernel_rfl) (fun _ _ _ h => h) (by rfl) hS1 ?_
          simp only [Act.put, List.setIfInBounds_toArray, List.set_cons_zero, List.set_cons_succ]
          refine skip_at 47 (some 133) rfl rfl (by kernel_rfl) (by kernel_rfl) (by kernel_rfl) (fun _ _ _ h => h) (by rfl) hS1 ?_
          simp only [Act.put, List.setIfInBounds_toArray, List.set_cons_zero, List.set_cons_succ]
          refine skip_at 48 (some 134) rfl rfl (by kernel_rfl) (by kernel_rfl) (by kernel_rfl) (fun _ _ _ h => h) (by rfl) hS1 ?_
          simp only [Act.put, List.setIfInBounds_toArray, List.set_cons_zero, List.set_cons_succ]
          refine skip_at 49 (some 135) rfl rfl (by kernel_rfl) (by kernel_rfl) (by kernel_rfl) (fun _ _ _ h => h) (by rfl) hS1 ?_
          simp only [Act.put, List.setIfInBounds_toArray, List.set_cons_zero, List.set_cons_succ]
          refine skip_at 50 (some 136) rfl rfl (by kernel_rfl) (by kernel_rfl) (by kernel_rfl) (fun _ _ _ h => h) (by rfl) hS1 ?_
          simp only [Act.put, List.setIfInBounds_toArray, List.set_cons_zero, List.set_cons_succ]
          refine skip_at 51 (some 137) rfl rfl (by kernel_rfl) (by kernel_rfl) (by kernel_rfl) (fun _ _ _ h => h) (by rfl) hS1 ?_
          simp only [Act.put, List.setIfInBounds_toArray, List.set_cons_zero, List.set_cons_succ]
          refine skip_at 52 (some 138) rfl rfl (by kernel_rfl) (by kernel_rfl) (by kernel_rfl) (fun _ _ _ h => h) (by rfl) hS1 ?_
          simp only [Act.put, List.setIfInBounds_toArray, List.set_cons_zero, List.set_cons_succ]
          refine skip_at 53 (some 139) rfl rfl (by kernel_rfl) (by kernel_rfl) (by kernel_rfl) (fun _ _ _ h => h) (by rfl) hS1 ?_
          simp only [Act.put, List.setIfInBounds_toArray, List.set_cons_zero, List.set_cons_succ]
          refine skip_at 54 (some 140) rfl rfl (by kernel_rfl) (by kernel_rfl) (by kernel_rfl) (fun _ _ _ h => h) (by rfl) hS1 ?_
          simp only [Act.put, List.setIfInBounds_toArray, List.set_cons_zero, List.set_cons_succ]
          refine skip_at 55 (some 141) rfl rfl (by kernel_rfl) (by kernel_rfl) (by kernel_rfl) (fun _ _ _ h => h) (by rfl) hS1 ?_
          simp only [Act.put, List.setIfInBounds_toArray, List.set_cons_zero, List.set_cons_succ]
          refine skip_at 56 (some 142) rfl rfl (by kernel_rfl) (by kernel_rfl) (by kernel_rfl) (fun _ _ _ h => h) (by rfl) hS1 ?_
          simp only [Act.put, List.setIfInBounds_toArray, List.set_cons_zero, List.set_cons_succ]
          refine skip_at 57 (some 143) rfl rfl (by kernel_rfl) (by kernel_rfl) (by kernel_rfl) (fun _ _ _ h => h) (by rfl) hS1 ?_
          simp only [Act.put, List.setIfInBounds_toArray, List.set_cons_zero, List.set_cons_succ]
          refine take_at 58 (some 144) (.bool true) rfl rfl (by kernel_rfl) (by kernel_rfl) (by kernel_rfl) (fun _ _ _ h => h) (by rfl) (fun W hSw => by obtain ⟨q0, q1, q2, q3, q4⟩ := hSw; go_simp <;> first | exact EA.out | exact (if_neg (by omega)).trans (by rw [EB.out]) | exact EC.out | exact ED.out) hS1 ?_
          simp only [Act.put, List.setIfInBounds_toArray, List.set_cons_zero, List.set_cons_succ]
          refine take_at 59 (some 145) (.bool true) rfl rfl (by kernel_rfl) (by kernel_rfl) (by kernel_rfl) (fun _ _ _ h => h) (by rfl) (fun W hSw => by obtain ⟨q0, q1, q2, q3, q4⟩ := hSw; go_simp <;> first | exact EA.out | exact (if_neg (by omega)).trans (by rw [EB.out]) | exact EC.out | exact ED.out) hS1 ?_
          simp only [Act.put, List.setIfInBounds_toArray, List.set_cons_zero, List.set_cons_succ]
          refine take_at 60 (some 2) (.bool true) rfl rfl (by kernel_rfl) (by kernel_rfl) (by kernel_rfl) (fun _ _ _ h => h) (by rfl) (fun W hSw => by obtain ⟨q0, q1, q2, q3, q4⟩ := hSw; go_simp <;> first | exact EA.out | exact (if_neg (by omega)).trans (by rw [EB.out]) | exact EC.out | exact ED.out) hS1 ?_
          simp only [Act.put, List.setIfInBounds_toArray, List.set_cons_zero, List.set_cons_succ]
          refine wpAnyH_done (by kernel_rfl) ?_ _
          refine NoPanic.normal ?_
          go_wp2
          go_ret
          exact ⟨rfl, hb9'⟩
        · rw [if_neg h2, hdl.out] at hde
          have d2 : decide ((1 : Int) < (n : Int)) = true := decide_eq_true (by omega)
          have hsb := fun W => sub_any false false (l.getD (n - 1) 0) (l.getD 0 0) W hrr.1 hrr.2
          generalize ov (fAdd (cnt false (l.getD (n - 1) 0)) (fNeg (cnt false (l.getD 0 0)))) = fo at *
          generalize nn (fAdd (cnt false (l.getD (n - 1) 0)) (fNeg (cnt false (l.getD 0 0)))) = fn at *
          have EA : Hid (IntKind.i64.wrap ((n : Int) - 1) = ((n - 1 : Nat) : Int)) := by show _ = _; rw [wI (by omega) (by omega)]; omega
          have EB : Hid (IntKind.i64.wrap (S.tdiv n) = A) := HT
          have EC : Hid (IntKind.i64.wrap (l.getD (n - 1) 0) = l.getD (n - 1) 0) := wI hrr.1.1 hrr.1.2
          have ED : Hid (IntKind.i64.wrap (l.getD 0 0) = l.getD 0 0) := wI hrr.2.1 hrr.2.2
          have HV : Hid (l.getD (n - 1) 0 = l.getD (n - 1) 0 ∧ l.getD 0 0 = l.getD 0 0) := ⟨rfl, rfl⟩
          have hnn : n - 1 < n := by omega
          go_wp2_with fail
          generalize w4.alloc (.cells #[.bool false, .int .i64 A] 31) = w5 at *
          refine (hde _ hs4).mono ?_
          rintro e w6 ⟨rfl, hb6⟩
          have hx6 := (hx4.later hb6).later (bal (Below.refl _ _) (.cells #[.bool fo, .int .i64 fn] 31))
          have hy6 := Box.new w6 fo fn
          have hs6 := (hs4.later hb6).later (bal (Below.refl _ _) (.cells #[.bool fo, .int .i64 fn] 31))
          have hb6' := bal (Below.chain hb4' hb6) (.cells #[.bool fo, .int .i64 fn] 31)
          go_wp2_with fail
          generalize w6.alloc (.cells #[.bool fo, .int .i64 fn] 31) = w7 at *
          have hb8 : Below w.heap.size w w7.drew := hb6'.trans (Below.refl _ _).drew
          have hx8 : Box w7.drew w4.heap.size false A := hx6.later (Below.refl _ _).drew
          have hy8 : Box w7.drew w6.heap.size fo fn := hy6.later (Below.refl _ _).drew
          have hs8 := hs6.later (Below.refl _ _).drew
          have z1 := HC.out _ hb8 (n - 1) (by omega)
          have z0 := HC.out _ hb8 0 h
          rw [Nat.add_zero] at z0
          generalize hvl1 : l.getD (n - 1) 0 = vl at *
          have HV1 : Hid (l.getD (n - 1) 0 = vl) := hvl1
          clear hvl1
          generalize hv01 : l.getD 0 0 = v0 at *
          have HV2 : Hid (l.getD 0 0 = v0) := hv01
          clear hv01
          have HV : Hid (l.getD (n - 1) 0 = vl ∧ l.getD 0 0 = v0) := ⟨HV1.out, HV2.out⟩
          clear hs4 hx4 hb6 hs6 hx6 hy6 hb4'
          have hS0 : (fun W : World => W.cell? ⟨w4.heap.size, 1, none⟩ = some (Value.int .i64 A) ∧ W.cell? ⟨w6.heap.size, 0, none⟩ = some (Value.bool fo) ∧ W.cell? ⟨w6.heap.size, 1, none⟩ = some (Value.int .i64 fn) ∧ W.cell? ⟨vb, off + (n - 1), none⟩ = some (Value.int .i32 vl) ∧ W.cell? ⟨vb, off, none⟩ = some (Value.int .i32 v0)) _ := ⟨hx8.c1, hy8.c0, hy8.c1, z1, z0⟩
          refine wp_region_noPanic ?_
          refine wp_region_held_drew (S := fun W : World => W.cell? ⟨w4.heap.size, 1, none⟩ = some (Value.int .i64 A) ∧ W.cell? ⟨w6.heap.size, 0, none⟩ = some (Value.bool fo) ∧ W.cell? ⟨w6.heap.size, 1, none⟩ = some (Value.int .i64 fn) ∧ W.cell? ⟨vb, off + (n - 1), none⟩ = some (Value.int .i32 vl) ∧ W.cell? ⟨vb, off, none⟩ = some (Value.int .i32 v0)) (by kernel_rfl) hS0 (fun _ => ?_)
          refine take_at 0 (some 86) (.bool true) rfl rfl (by kernel_rfl) (by kernel_rfl) (by kernel_rfl) (fun _ _ _ h => h) (by rfl) (fun W hSw => by obtain ⟨q0, q1, q2, q3, q4⟩ := hSw; go_simp <;> first | exact EA.out | exact (if_neg (by omega)).trans (by rw [EB.out]) | exact EC.out | exact ED.out) hS0 ?_
          simp only [Act.put, List.setIfInBounds_toArray, List.set_cons_zero, List.set_cons_succ]
          refine take_at 1 (some 87) (.bool true) rfl rfl (by kernel_rfl) (by kernel_rfl) (by kernel_rfl) (fun _ _ _ h => h) (by rfl) (fun W hSw => by obtain ⟨q0, q1, q2, q3, q4⟩ := hSw; go_simp <;> first | exact EA.out | exact (if_neg (by omega)).trans (by rw [EB.out]) | exact EC.out | exact ED.out) hS0 ?_
          simp only [Act.put, List.setIfInBounds_toArray, List.set_cons_zero, List.set_cons_succ]
          refine take_at 2 (some 88) (.pointer (some ⟨w4.heap.size, 1, none⟩)) rfl rfl (by kernel_rfl) (by kernel_rfl) (by kernel_rfl) (fun _ _ _ h => h) (by rfl) (fun W hSw => by obtain ⟨q0, q1, q2, q3, q4⟩ := hSw; go_simp <;> first | exact EA.out | exact (if_neg (by omega)).trans (by rw [EB.out]) | exact EC.out | exact ED.out) hS0 ?_
          simp only [Act.put, List.setIfInBounds_toArray, List.set_cons_zero, List.set_cons_succ]
          refine take_at 3 (some 89) (.int .i64 A) rfl rfl (by kernel_rfl) (by kernel_rfl) (by kernel_rfl) (fun _ _ _ h => h) (by rfl) (fun W hSw => by obtain ⟨q0, q1, q2, q3, q4⟩ := hSw; go_simp <;> first | exact EA.out | exact (if_neg (by omega)).trans (by rw [EB.out]) | exact EC.out | exact ED.out) hS0 ?_
          simp only [Act.put, List.setIfInBounds_toArray, List.set_cons_zero, List.set_cons_succ]
          refine take_at 4 (some 90) (.int .i64 LO) rfl rfl (by kernel_rfl) (by kernel_rfl) (by kernel_rfl) (fun _ _ _ h => h) (by rfl) (fun W hSw => by obtain ⟨q0, q1, q2, q3, q4⟩ := hSw; go_simp <;> first | exact EA.out | exact (if_neg (by omega)).trans (by rw [EB.out]) | exact EC.out | exact ED.out) hS0 ?_
          simp only [Act.put, List.setIfInBounds_toArray, List.set_cons_zero, List.set_cons_succ]
          refine take_at 5 (some 91) (.bool true) rfl rfl (by kernel_rfl) (by kernel_rfl) (by kernel_rfl) (fun _ _ _ h => h) (by rfl) (fun W hSw => by obtain ⟨q0, q1, q2, q3, q4⟩ := hSw; go_simp <;> first | exact EA.out | exact (if_neg (by omega)).trans (by rw [EB.out]) | exact EC.out | exact ED.out) hS0 ?_
          simp only [Act.put, List.setIfInBounds_toArray, List.set_cons_zero, List.set_cons_succ]
          refine take_at 6 (some 92) (.bool true) rfl rfl (by kernel_rfl) (by kernel_rfl) (by kernel_rfl) (fun _ _ _ h => h) (by rfl) (fun W hSw => by obtain ⟨q0, q1, q2, q3, q4⟩ := hSw; go_simp <;> first | exact EA.out | exact (if_neg (by omega)).trans (by rw [EB.out]) | exact EC.out | exact ED.out) hS0 ?_
          simp only [Act.put, List.setIfInBounds_toArray, List.set_cons_zero, List.set_cons_succ]
          refine take_at 7 (some 93) (.bool true) rfl rfl (by kernel_rfl) (by kernel_rfl) (by kernel_rfl) (fun _ _ _ h => h) (by rfl) (fun W hSw => by obtain ⟨q0, q1, q2, q3, q4⟩ := hSw; go_simp <;> first | exact EA.out | exact (if_neg (by omega)).trans (by rw [EB.out]) | exact EC.out | exact ED.out) hS0 ?_
          simp only [Act.put, List.setIfInBounds_toArray, List.set_cons_zero, List.set_cons_succ]
          refine take_at 8 (some 94) (.pointer (some ⟨w4.heap.size, 1, none⟩)) rfl rfl (by kernel_rfl) (by kernel_rfl) (by kernel_rfl) (fun _ _ _ h => h) (by rfl) (fun W hSw => by obtain ⟨q0, q1, q2, q3, q4⟩ := hSw; go_simp <;> first | exact EA.out | exact (if_neg (by omega)).trans (by rw [EB.out]) | exact EC.out | exact ED.out) hS0 ?_
          simp only [Act.put, List.setIfInBounds_toArray, List.set_cons_zero, List.set_cons_succ]
          refine take_at 9 (some 95) (.int .i64 A) rfl rfl (by kernel_rfl) (by kernel_rfl) (by kernel_rfl) (fun _ _ _ h => h) (by rfl) (fun W hSw => by obtain ⟨q0, q1, q2, q3, q4⟩ := hSw; go_simp <;> first | exact EA.out | exact (if_neg (by omega)).trans (by rw [EB.out]) | exact EC.out | exact ED.out) hS0 ?_
          simp only [Act.put, List.setIfInBounds_toArray, List.set_cons_zero, List.set_cons_succ]
          refine take_at 10 (some 96) (.int .i64 HI) rfl rfl (by kernel_rfl) (by kernel_rfl) (by kernel_rfl) (fun _ _ _ h => h) (by rfl) (fun W hSw => by obtain ⟨q0, q1, q2, q3, q4⟩ := hSw; go_simp <;> first | exact EA.out | exact (if_neg (by omega)).trans (by rw [EB.out]) | exact EC.out | exact ED.out) hS0 ?_
          simp only [Act.put, List.setIfInBounds_toArray, List.set_cons_zero, List.set_cons_succ]
          refine take_at 11 (some 97) (.bool true) rfl rfl (by kernel_rfl) (by kernel_rfl) (by kernel_rfl) (fun _ _ _ h => h) (by rfl) (fun W hSw => by obtain ⟨q0, q1, q2, q3, q4⟩ := hSw; go_simp <;> first | exact EA.out | exact (if_neg (by omega)).trans (by rw [EB.out]) | exact EC.out | exact ED.out) hS0 ?_
          simp only [Act.put, List.setIfInBounds_toArray, List.set_cons_zero, List.set_cons_succ]
          refine take_at 12 (some 98) (.bool true) rfl rfl (by kernel_rfl) (by kernel_rfl) (by kernel_rfl) (fun _ _ _ h => h) (by rfl) (fun W hSw => by obtain ⟨q0, q1, q2, q3, q4⟩ := hSw; go_simp <;> first | exact EA.out | exact (if_neg (by omega)).trans (by rw [EB.out]) | exact EC.out | exact ED.out) hS0 ?_
          simp only [Act.put, List.setIfInBounds_toArray, List.set_cons_zero, List.set_cons_succ]
          refine take_at 13 (some 99) (.bool true) rfl rfl (by kernel_rfl) (by kernel_rfl) (by kernel_rfl) (fun _ _ _ h => h) (by rfl) (fun W hSw => by obtain ⟨q0, q1, q2, q3, q4⟩ := hSw; go_simp <;> first | exact EA.out | exact (if_neg (by omega)).trans (by rw [EB.out]) | exact EC.out | exact ED.out) hS0 ?_
          simp only [Act.put, List.setIfInBounds_toArray, List.set_cons_zero, List.set_cons_succ]
          refine take_at 14 (some 100) (.pointer (some ⟨w4.heap.size, 1, none⟩)) rfl rfl (by kernel_rfl) (by kernel_rfl) (by kernel_rfl) (fun _ _ _ h => h) (by rfl) (fun W hSw => by obtain ⟨q0, q1, q2, q3, q4⟩ := hSw; go_simp <;> first | exact EA.out | exact (if_neg (by omega)).trans (by rw [EB.out]) | exact EC.out | exact ED.out) hS0 ?_
          simp only [Act.put, List.setIfInBounds_toArray, List.set_cons_zero, List.set_cons_succ]
          refine take_at 15 (some 101) (.int .i64 A) rfl rfl (by kernel_rfl) (by kernel_rfl) (by kernel_rfl) (fun _ _ _ h => h) (by rfl) (fun W hSw => by obtain ⟨q0, q1, q2, q3, q4⟩ := hSw; go_simp <;> first | exact EA.out | exact (if_neg (by omega)).trans (by rw [EB.out]) | exact EC.out | exact ED.out) hS0 ?_
          simp only [Act.put, List.setIfInBounds_toArray, List.set_cons_zero, List.set_cons_succ]
          refine take_at 16 (some 102) (.int .i64 S) rfl rfl (by kernel_rfl) (by kernel_rfl) (by kernel_rfl) (fun _ _ _ h => h) (by rfl) (fun W hSw => by obtain ⟨q0, q1, q2, q3, q4⟩ := hSw; go_simp <;> first | exact EA.out | exact (if_neg (by omega)).trans (by rw [EB.out]) | exact EC.out | exact ED.out) hS0 ?_
          simp only [Act.put, List.setIfInBounds_toArray, List.set_cons_zero, List.set_cons_succ]
          refine take_at 17 (some 103) (.slice (some ⟨vb, off, none⟩) n cap) rfl rfl (by kernel_rfl) (by kernel_rfl) (by kernel_rfl) (fun _ _ _ h => h) (by rfl) (fun W hSw => by obtain ⟨q0, q1, q2, q3, q4⟩ := hSw; go_simp <;> first | exact EA.out | exact (if_neg (by omega)).trans (by rw [EB.out]) | exact EC.out | exact ED.out) hS0 ?_
          simp only [Act.put, List.setIfInBounds_toArray, List.set_cons_zero, List.set_cons_succ]
          refine take_at 18 (some 104) (.int .i64 n) rfl rfl (by kernel_rfl) (by kernel_rfl) (by kernel_rfl) (fun _ _ _ h => h) (by rfl) (fun W hSw => by obtain ⟨q0, q1, q2, q3, q4⟩ := hSw; go_simp <;> first | exact EA.out | exact (if_neg (by omega)).trans (by rw [EB.out]) | exact EC.out | exact ED.out) hS0 ?_
          simp only [Act.put, List.setIfInBounds_toArray, List.set_cons_zero, List.set_cons_succ]
          refine take_at 19 (some 105) (.int .i64 A) rfl rfl (by kernel_rfl) (by kernel_rfl) (by kernel_rfl) (fun _ _ _ h => h) (by rfl) (fun W hSw => by obtain ⟨q0, q1, q2, q3, q4⟩ := hSw; go_simp <;> first | exact EA.out | exact (if_neg (by omega)).trans (by rw [EB.out]) | exact EC.out | exact ED.out) hS0 ?_
          simp only [Act.put, List.setIfInBounds_toArray, List.set_cons_zero, List.set_cons_succ]
          refine take_at 20 (some 106) (.bool true) rfl rfl (by kernel_rfl) (by kernel_rfl) (by kernel_rfl) (fun _ _ _ h => h) (by rfl) (fun W hSw => by obtain ⟨q0, q1, q2, q3, q4⟩ := hSw; go_simp <;> first | exact EA.out | exact (if_neg (by omega)).trans (by rw [EB.out]) | exact EC.out | exact ED.out) hS0 ?_
          simp only [Act.put, List.setIfInBounds_toArray, List.set_cons_zero, List.set_cons_succ]
          refine take_at 21 (some 107) (.bool true) rfl rfl (by kernel_rfl) (by kernel_rfl) (by kernel_rfl) (fun _ _ _ h => h) (by rfl) (fun W hSw => by obtain ⟨q0, q1, q2, q3, q4⟩ := hSw; go_simp <;> first | exact EA.out | exact (if_neg (by omega)).trans (by rw [EB.out]) | exact EC.out | exact ED.out) hS0 ?_
          simp only [Act.put, List.setIfInBounds_toArray, List.set_cons_zero, List.set_cons_succ]
          refine take_at 22 (some 108) (.bool true) rfl rfl (by kernel_rfl) (by kernel_rfl) (by kernel_rfl) (fun _ _ _ h => h) (by rfl) (fun W hSw => by obtain ⟨q0, q1, q2, q3, q4⟩ := hSw; go_simp <;> first | exact EA.out | exact (if_neg (by omega)).trans (by rw [EB.out]) | exact EC.out | exact ED.out) hS0 ?_
          simp only [Act.put, List.setIfInBounds_toArray, List.set_cons_zero, List.set_cons_succ]
          refine take_at 23 (some 109) (.pointer (some ⟨b, 0, none⟩)) rfl rfl (by kernel_rfl) (by kernel_rfl) (by kernel_rfl) (fun _ _ _ h => h) (by rfl) (fun W hSw => by obtain ⟨q0, q1, q2, q3, q4⟩ := hSw; go_simp <;> first | exact EA.out | exact (if_neg (by omega)).trans (by rw [EB.out]) | exact EC.out | exact ED.out) hS0 ?_
          simp only [Act.put, List.setIfInBounds_toArray, List.set_cons_zero, List.set_cons_succ]
          refine take_at 24 (some 110) (.pointer (some ⟨b, 0, none⟩)) rfl rfl (by kernel_rfl) (by kernel_rfl) (by kernel_rfl) (fun _ _ _ h => h) (by rfl) (fun W hSw => by obtain ⟨q0, q1, q2, q3, q4⟩ := hSw; go_simp <;> first | exact EA.out | exact (if_neg (by omega)).trans (by rw [EB.out]) | exact EC.out | exact ED.out) hS0 ?_
          simp only [Act.put, List.setIfInBounds_toArray, List.set_cons_zero, List.set_cons_succ]
          refine take_at 25 (some 111) (.pointer (some ⟨b, 0, none⟩)) rfl rfl (by kernel_rfl) (by kernel_rfl) (by kernel_rfl) (fun _ _ _ h => h) (by rfl) (fun W hSw => by obtain ⟨q0, q1, q2, q3, q4⟩ := hSw; go_simp <;> first | exact EA.out | exact (if_neg (by omega)).trans (by rw [EB.out]) | exact EC.out | exact ED.out) hS0 ?_
          simp only [Act.put, List.setIfInBounds_toArray, List.set_cons_zero, List.set_cons_succ]
          refine take_at 27 (some 113) (.int .i64 S) rfl rfl (by kernel_rfl) (by kernel_rfl) (by kernel_rfl) (fun _ _ _ h => h) (by rfl) (fun W hSw => by obtain ⟨q0, q1, q2, q3, q4⟩ := hSw; go_simp <;> first | exact EA.out | exact (if_neg (by omega)).trans (by rw [EB.out]) | exact EC.out | exact ED.out) hS0 ?_
          simp only [Act.put, List.setIfInBounds_toArray, List.set_cons_zero, List.set_cons_succ]
          refine take_at 28 (some 114) (.agg #[.bool false, .int .i64 S]) rfl rfl (by kernel_rfl) (by kernel_rfl) (by kernel_rfl) (fun _ _ _ h => h) (by rfl) (fun W hSw => by obtain ⟨q0, q1, q2, q3, q4⟩ := hSw; go_simp <;> first | exact EA.out | exact (if_neg (by omega)).trans (by rw [EB.out]) | exact EC.out | exact ED.out) hS0 ?_
          simp only [Act.put, List.setIfInBounds_toArray, List.set_cons_zero, List.set_cons_succ]
          refine wpAnyH_ready (rs := [26]) (by kernel_rfl) (by simp) ?_
          refine AllReadyH.cons rfl (fun K hK => ?_) AllReadyH.nil
          go_simp
          refine (hsu _ hs8).mono ?_
          rintro e w9 ⟨rfl, hb9⟩
          have hx9 := hx8.later hb9
          have hy9 := hy8.later hb9
          have hb9' := Below.chain hb8 hb9
          have z9 := HC.out _ hb9' (n - 1) (by omega)
          have y9 := HC.out _ hb9' 0 h
          rw [HV.out.1] at z9
          rw [HV.out.2, Nat.add_zero] at y9
          have hS1 := (⟨hx9.c1, hy9.c0, hy9.c1, z9, y9⟩ : (fun W : World => W.cell? ⟨w4.heap.size, 1, none⟩ = some (Value.int .i64 A) ∧ W.cell? ⟨w6.heap.size, 0, none⟩ = some (Value.bool fo) ∧ W.cell? ⟨w6.heap.size, 1, none⟩ = some (Value.int .i64 fn) ∧ W.cell? ⟨vb, off + (n - 1), none⟩ = some (Value.int .i32 vl) ∧ W.cell? ⟨vb, off, none⟩ = some (Value.int .i32 v0)) w9)
          refine hK.out _ _ hS1 (fun _ => ?_)
          clear hK K
          refine take_at 29 (some 115) (.bool true) rfl rfl (by kernel_rfl) (by kernel_rfl) (by kernel_rfl) (fun _ _ _ h => h) (by rfl) (fun W hSw => by obtain ⟨q0, q1, q2, q3, q4⟩ := hSw; go_simp <;> first | exact EA.out | exact (if_neg (by omega)).trans (by rw [EB.out]) | exact EC.out | exact ED.out) hS1 ?_
          simp only [Act.put, List.setIfInBounds_toArray, List.set_cons_zero, List.set_cons_succ]
          refine take_at 30 (some 116) (.bool true) rfl rfl (by kernel_rfl) (by kernel_rfl) (by kernel_rfl) (fun _ _ _ h => h) (by rfl) (fun W hSw => by obtain ⟨q0, q1, q2, q3, q4⟩ := hSw; go_simp <;> first | exact EA.out | exact (if_neg (by omega)).trans (by rw [EB.out]) | exact EC.out | exact ED.out) hS1 ?_
          simp only [Act.put, List.setIfInBounds_toArray, List.set_cons_zero, List.set_cons_succ]
          refine take_at 31 (some 117) (.bool true) rfl rfl (by kernel_rfl) (by kernel_rfl) (by kernel_rfl) (fun _ _ _ h => h) (by rfl) (fun W hSw => by obtain ⟨q0, q1, q2, q3, q4⟩ := hSw; go_simp <;> first | exact EA.out | exact (if_neg (by omega)).trans (by rw [EB.out]) | exact EC.out | exact ED.out) hS1 ?_
          simp only [Act.put, List.setIfInBounds_toArray, List.set_cons_zero, List.set_cons_succ]
          refine take_at 32 (some 118) (.bool true) rfl rfl (by kernel_rfl) (by kernel_rfl) (by kernel_rfl) (fun _ _ _ h => h) (by rfl) (fun W hSw => by obtain ⟨q0, q1, q2, q3, q4⟩ := hSw; go_simp <;> first | exact EA.out | exact (if_neg (by omega)).trans (by rw [EB.out]) | exact EC.out | exact ED.out) hS1 ?_
          simp only [Act.put, List.setIfInBounds_toArray, List.set_cons_zero, List.set_cons_succ]
          refine take_at 33 (some 119) (.slice (some ⟨vb, off, none⟩) n cap) rfl rfl (by kernel_rfl) (by kernel_rfl) (by kernel_rfl) (fun _ _ _ h => h) (by rfl) (fun W hSw => by obtain ⟨q0, q1, q2, q3, q4⟩ := hSw; go_simp <;> first | exact EA.out | exact (if_neg (by omega)).trans (by rw [EB.out]) | exact EC.out | exact ED.out) hS1 ?_
          simp only [Act.put, List.setIfInBounds_toArray, List.set_cons_zero, List.set_cons_succ]
          refine take_at 34 (some 120) (.int .i64 n) rfl rfl (by kernel_rfl) (by kernel_rfl) (by kernel_rfl) (fun _ _ _ h => h) (by rfl) (fun W hSw => by obtain ⟨q0, q1, q2, q3, q4⟩ := hSw; go_simp <;> first | exact EA.out | exact (if_neg (by omega)).trans (by rw [EB.out]) | exact EC.out | exact ED.out) hS1 ?_
          simp only [Act.put, List.setIfInBounds_toArray, List.set_cons_zero, List.set_cons_succ]
          refine take_at 35 (some 121) (.bool true) rfl rfl (by kernel_rfl) (by kernel_rfl) (by kernel_rfl) (fun _ _ _ h => h) (by rfl) (fun W hSw => by obtain ⟨q0, q1, q2, q3, q4⟩ := hSw; go_simp <;> first | exact EA.out | exact (if_neg (by omega)).trans (by rw [EB.out]) | exact EC.out | exact ED.out) hS1 ?_
          simp only [Act.put, List.setIfInBounds_toArray, List.set_cons_zero, List.set_cons_succ]
          refine take_at 36 (some 122) (.bool true) rfl rfl (by kernel_rfl) (by kernel_rfl) (by kernel_rfl) (fun _ _ _ h => h) (by rfl) (fun W hSw => by obtain ⟨q0, q1, q2, q3, q4⟩ := hSw; go_simp <;> first | exact EA.out | exact (if_neg (by omega)).trans (by rw [EB.out]) | exact EC.out | exact ED.out) hS1 ?_
          simp only [Act.put, List.setIfInBounds_toArray, List.set_cons_zero, List.set_cons_succ]
          refine take_at 37 (some 123) (.bool true) rfl rfl (by kernel_rfl) (by kernel_rfl) (by kernel_rfl) (fun _ _ _ h => h) (by rfl) (fun W hSw => by obtain ⟨q0, q1, q2, q3, q4⟩ := hSw; go_simp <;> first | exact EA.out | exact (if_neg (by omega)).trans (by rw [EB.out]) | exact EC.out | exact ED.out) hS1 ?_
          simp only [Act.put, List.setIfInBounds_toArray, List.set_cons_zero, List.set_cons_succ]
          refine take_at 38 (some 124) (.bool true) rfl rfl (by kernel_rfl) (by kernel_rfl) (by kernel_rfl) (fun _ _ _ h => h) (by rfl) (fun W hSw => by obtain ⟨q0, q1, q2, q3, q4⟩ := hSw; go_simp <;> first | exact EA.out | exact (if_neg (by omega)).trans (by rw [EB.out]) | exact EC.out | exact ED.out) hS1 ?_
          simp only [Act.put, List.setIfInBounds_toArray, List.set_cons_zero, List.set_cons_succ]
          refine take_at 39 (some 125) (.bool true) rfl rfl (by kernel_rfl) (by kernel_rfl) (by kernel_rfl) (fun _ _ _ h => h) (by rfl) (fun W hSw => by obtain ⟨q0, q1, q2, q3, q4⟩ := hSw; go_simp <;> first | exact EA.out | exact (if_neg (by omega)).trans (by rw [EB.out]) | exact EC.out | exact ED.out) hS1 ?_
          simp only [Act.put, List.setIfInBounds_toArray, List.set_cons_zero, List.set_cons_succ]
          refine take_at 40 (some 126) (.bool false) rfl rfl (by kernel_rfl) (by kernel_rfl) (by kernel_rfl) (fun _ _ _ h => h) (by rfl) (fun W hSw => by obtain ⟨q0, q1, q2, q3, q4⟩ := hSw; go_simp <;> first | exact EA.out | exact (if_neg (by omega)).trans (by rw [EB.out]) | exact EC.out | exact ED.out) hS1 ?_
          simp only [Act.put, List.setIfInBounds_toArray, List.set_cons_zero, List.set_cons_succ]
          refine take_at 41 (some 127) (.bool false) rfl rfl (by kernel_rfl) (by kernel_rfl) (by kernel_rfl) (fun _ _ _ h => h) (by rfl) (fun W hSw => by obtain ⟨q0, q1, q2, q3, q4⟩ := hSw; go_simp <;> first | exact EA.out | exact (if_neg (by omega)).trans (by rw [EB.out]) | exact EC.out | exact ED.out) hS1 ?_
          simp only [Act.put, List.setIfInBounds_toArray, List.set_cons_zero, List.set_cons_succ]
          refine take_at 42 (some 128) (.agg #[.bool fo, .int .i64 fn]) rfl rfl (by kernel_rfl) (by kernel_rfl) (by kernel_rfl) (fun _ _ _ h => h) (by rfl) (fun W hSw => by obtain ⟨q0, q1, q2, q3, q4⟩ := hSw; go_simp <;> first | exact EA.out | exact (if_neg (by omega)).trans (by rw [EB.out]) | exact EC.out | exact ED.out) hS1 ?_
          simp only [Act.put, List.setIfInBounds_toArray, List.set_cons_zero, List.set_cons_succ]
          refine take_at 43 (some 129) (.slice (some ⟨vb, off, none⟩) n cap) rfl rfl (by kernel_rfl) (by kernel_rfl) (by kernel_rfl) (fun _ _ _ h => h) (by rfl) (fun W hSw => by obtain ⟨q0, q1, q2, q3, q4⟩ := hSw; go_simp <;> first | exact EA.out | exact (if_neg (by omega)).trans (by rw [EB.out]) | exact EC.out | exact ED.out) hS1 ?_
          simp only [Act.put, List.setIfInBounds_toArray, List.set_cons_zero, List.set_cons_succ]
          refine take_at 44 (some 130) (.slice (some ⟨vb, off, none⟩) n cap) rfl rfl (by kernel_rfl) (by kernel_rfl) (by kernel_rfl) (fun _ _ _ h => h) (by rfl) (fun W hSw => by obtain ⟨q0, q1, q2, q3, q4⟩ := hSw; go_simp <;> first | exact EA.out | exact (if_neg (by omega)).trans (by rw [EB.out]) | exact EC.out | exact ED.out) hS1 ?_
          simp only [Act.put, List.setIfInBounds_toArray, List.set_cons_zero, List.set_cons_succ]
          refine take_at 45 (some 131) (.int .i64 n) rfl rfl (by kernel_rfl) (by kernel_rfl) (by kernel_rfl) (fun _ _ _ h => h) (by rfl) (fun W hSw => by obtain ⟨q0, q1, q2, q3, q4⟩ := hSw; go_simp <;> first | exact EA.out | exact (if_neg (by omega)).trans (by rw [EB.out]) | exact EC.out | exact ED.out) hS1 ?_
          simp only [Act.put, List.setIfInBounds_toArray, List.set_cons_zero, List.set_cons_succ]
          refine take_at 46 (some 132) (.int .i64 ((n - 1 : Nat) : Int)) rfl rfl (by kernel_rfl) (by kernel_rfl) (by kernel_rfl) (fun _ _ _ h => h) (by rfl) (fun W hSw => by obtain ⟨q0, q1, q2, q3, q4⟩ := hSw; go_simp <;> first | exact EA.out | exact (if_neg (by omega)).trans (by rw [EB.out]) | exact EC.out | exact ED.out) hS1 ?_
          simp only [Act.put, List.setIfInBounds_toArray, List.set_cons_zero, List.set_cons_succ]
          refine take_at 47 (some 133) (.pointer (some ⟨vb, off + (n - 1), none⟩)) rfl rfl (by kernel_rfl) (by kernel_rfl) (by kernel_rfl) (fun _ _ _ h => h) (by rfl) (fun W hSw => by obtain ⟨q0, q1, q2, q3, q4⟩ := hSw; go_simp <;> first | exact EA.out | exact (if_neg (by omega)).trans (by rw [EB.out]) | exact EC.out | exact ED.out) hS1 ?_
          simp only [Act.put, List.setIfInBounds_toArray, List.set_cons_zero, List.set_cons_succ]
          refine take_at 48 (some 134) (.int .i32 vl) rfl rfl (by kernel_rfl) (by kernel_rfl) (by kernel_rfl) (fun _ _ _ h => h) (by rfl) (fun W hSw => by obtain ⟨q0, q1, q2, q3, q4⟩ := hSw; go_simp <;> first | exact EA.out | exact (if_neg (by omega)).trans (by rw [EB.out]) | exact EC.out | exact ED.out) hS1 ?_
          simp only [Act.put, List.setIfInBounds_toArray, List.set_cons_zero, List.set_cons_succ]
          refine take_at 49 (some 135) (.int .i64 vl) rfl rfl (by kernel_rfl) (by kernel_rfl) (by kernel_rfl) (fun _ _ _ h => h) (by rfl) (fun W hSw => by obtain ⟨q0, q1, q2, q3, q4⟩ := hSw; go_simp <;> first | exact EA.out | exact (if_neg (by omega)).trans (by rw [EB.out]) | exact EC.out | exact ED.out) hS1 ?_
          simp only [Act.put, List.setIfInBounds_toArray, List.set_cons_zero, List.set_cons_succ]
          refine take_at 50 (some 136) (.agg #[.bool false, .int .i64 vl]) rfl rfl (by kernel_rfl) (by kernel_rfl) (by kernel_rfl) (fun _ _ _ h => h) (by rfl) (fun W hSw => by obtain ⟨q0, q1, q2, q3, q4⟩ := hSw; go_simp <;> first | exact EA.out | exact (if_neg (by omega)).trans (by rw [EB.out]) | exact EC.out | exact ED.out) hS1 ?_
          simp only [Act.put, List.setIfInBounds_toArray, List.set_cons_zero, List.set_cons_succ]
          refine take_at 51 (some 137) (.slice (some ⟨vb, off, none⟩) n cap) rfl rfl (by kernel_rfl) (by kernel_rfl) (by kernel_rfl) (fun _ _ _ h => h) (by rfl) (fun W hSw => by obtain ⟨q0, q1, q2, q3, q4⟩ := hSw; go_simp <;> first | exact EA.out | exact (if_neg (by omega)).trans (by rw [EB.out]) | exact EC.out | exact ED.out) hS1 ?_
          simp only [Act.put, List.setIfInBounds_toArray, List.set_cons_zero, List.set_cons_succ]
          refine take_at 52 (some 138) (.pointer (some ⟨vb, off, none⟩)) rfl rfl (by kernel_rfl) (by kernel_rfl) (by kernel_rfl) (fun _ _ _ h => h) (by rfl) (fun W hSw => by obtain ⟨q0, q1, q2, q3, q4⟩ := hSw; go_simp <;> first | exact EA.out | exact (if_neg (by omega)).trans (by rw [EB.out]) | exact EC.out | exact ED.out) hS1 ?_
          simp only [Act.put, List.setIfInBounds_toArray, List.set_cons_zero, List.set_cons_succ]
          refine take_at 53 (some 139) (.int .i32 v0) rfl rfl (by kernel_rfl) (by kernel_rfl) (by kernel_rfl) (fun _ _ _ h => h) (by rfl) (fun W hSw => by obtain ⟨q0, q1, q2, q3, q4⟩ := hSw; go_simp <;> first | exact EA.out | exact (if_neg (by omega)).trans (by rw [EB.out]) | exact EC.out | exact ED.out) hS1 ?_
          simp only [Act.put, List.setIfInBounds_toArray, List.set_cons_zero, List.set_cons_succ]
          refine take_at 54 (some 140) (.int .i64 v0) rfl rfl (by kernel_rfl) (by kernel_rfl) (by kernel_rfl) (fun _ _ _ h => h) (by rfl) (fun W hSw => by obtain ⟨q0, q1, q2, q3, q4⟩ := hSw; go_simp <;> first | exact EA.out | exact (if_neg (by omega)).trans (by rw [EB.out]) | exact EC.out | exact ED.out) hS1 ?_
          simp only [Act.put, List.setIfInBounds_toArray, List.set_cons_zero, List.set_cons_succ]
          refine take_at 55 (some 141) (.agg #[.bool false, .int .i64 v0]) rfl rfl (by kernel_rfl) (by kernel_rfl) (by kernel_rfl) (fun _ _ _ h => h) (by rfl) (fun W hSw => by obtain ⟨q0, q1, q2, q3, q4⟩ := hSw; go_simp <;> first | exact EA.out | exact (if_neg (by omega)).trans (by rw [EB.out]) | exact EC.out | exact ED.out) hS1 ?_
          simp only [Act.put, List.setIfInBounds_toArray, List.set_cons_zero, List.set_cons_succ]
          refine wpAnyH_ready (rs := [56]) (by kernel_rfl) (by simp) ?_
          refine AllReadyH.cons rfl (fun K hK => ?_) AllReadyH.nil
          go_simp
          refine (hsb _).mono ?_
          rintro e w10 ⟨rfl, hb10⟩
          have hx10 := hx9.later hb10
          have hy10 := hy9.later hb10
          have hb10' := Below.chain hb9' hb10
          have z10 := HC.out _ hb10' (n - 1) (by omega)
          have y10 := HC.out _ hb10' 0 h
          rw [HV.out.1] at z10
          rw [HV.out.2, Nat.add_zero] at y10
          have hS2 := (⟨hx10.c1, hy10.c0, hy10.c1, z10, y10⟩ : (fun W : World => W.cell? ⟨w4.heap.size, 1, none⟩ = some (Value.int .i64 A) ∧ W.cell? ⟨w6.heap.size, 0, none⟩ = some (Value.bool fo) ∧ W.cell? ⟨w6.heap.size, 1, none⟩ = some (Value.int .i64 fn) ∧ W.cell? ⟨vb, off + (n - 1), none⟩ = some (Value.int .i32 vl) ∧ W.cell? ⟨vb, off, none⟩ = some (Value.int .i32 v0)) w10)
          refine hK.out _ _ hS2 (fun _ => ?_)
          clear hK K
          refine take_at 57 (some 143) (.bool true) rfl rfl (by kernel_rfl) (by kernel_rfl) (by kernel_rfl) (fun _ _ _ h => h) (by rfl) (fun W hSw => by obtain ⟨q0, q1, q2, q3, q4⟩ := hSw; go_simp <;> first | exact EA.out | exact (if_neg (by omega)).trans (by rw [EB.out]) | exact EC.out | exact ED.out) hS2 ?_
          simp only [Act.put, List.setIfInBounds_toArray, List.set_cons_zero, List.set_cons_succ]
          refine take_at 58 (some 144) (.bool true) rfl rfl (by kernel_rfl) (by kernel_rfl) (by kernel_rfl) (fun _ _ _ h => h) (by rfl) (fun W hSw => by obtain ⟨q0, q1, q2, q3, q4⟩ := hSw; go_simp <;> first | exact EA.out | exact (if_neg (by omega)).trans (by rw [EB.out]) | exact EC.out | exact ED.out) hS2 ?_
          simp only [Act.put, List.setIfInBounds_toArray, List.set_cons_zero, List.set_cons_succ]
          refine take_at 59 (some 145) (.bool true) rfl rfl (by kernel_rfl) (by kernel_rfl) (by kernel_rfl) (fun _ _ _ h => h) (by rfl) (fun W hSw => by obtain ⟨q0, q1, q2, q3, q4⟩ := hSw; go_simp <;> first | exact EA.out | exact (if_neg (by omega)).trans (by rw [EB.out]) | exact EC.out | exact ED.out) hS2 ?_
          simp only [Act.put, List.setIfInBounds_toArray, List.set_cons_zero, List.set_cons_succ]
          refine take_at 60 (some 2) (.bool true) rfl rfl (by kernel_rfl) (by kernel_rfl) (by kernel_rfl) (fun _ _ _ h => h) (by rfl) (fun W hSw => by obtain ⟨q0, q1, q2, q3, q4⟩ := hSw; go_simp <;> first | exact EA.out | exact (if_neg (by omega)).trans (by rw [EB.out]) | exact EC.out | exact ED.out) hS2 ?_
          simp only [Act.put, List.setIfInBounds_toArray, List.set_cons_zero, List.set_cons_succ]
          refine wpAnyH_done (by kernel_rfl) ?_ _
          refine NoPanic.normal ?_
          go_wp2
          go_ret
          exact ⟨rfl, hb10'⟩
end Go.Proofs.Ytchopogodfghoaa
