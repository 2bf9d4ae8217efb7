/- SeriesCap: so many series are there, one more is not, until one has gone for want of samples. -/
import Derived.Test.YtjgckfcocmhnhaaGreatDoorMZ
import Derived.Test.YtjgckfcocmhnhaaGreatDoorMY
namespace Go.Proofs.YtjgckfcocmhnhaaGreatDoor.Sr
open Go.RowKit Rn

def cq (i : Nat) : List Lb.Pr := [([97], [UInt8.ofNat (65 + i)])]
def cL (i : Nat) : HL := (List.range (min i 16)).map fun j => (cq j, [((1 : Int), false, ((j * 1000000 : Nat) : Int))])
def bq : List Lb.Pr := [([98], [120])]
theorem cap1 : ∀ i, i < 30 → addEL 1 (cL i) (cq i) 1 = if i < 16 then 0 else 151 := by decide +kernel
theorem cap2a : ((List.range 30).all fun i => decide (addLL 1 (cL i) (cq i) ((1 : Int), false, ((i * 1000000 : Nat) : Int)) = cL (i + 1))) = true := by decide +kernel
theorem cap2 (i : Nat) (h : i < 30) : addLL 1 (cL i) (cq i) ((1 : Int), false, ((i * 1000000 : Nat) : Int)) = cL (i + 1) := of_decide_eq_true (List.all_eq_true.1 cap2a i (List.mem_range.2 h))
theorem cap3 : ∀ i : Nat, i < 30 → fOf (i : Int) = some ((i * 1000000 : Nat) : Int) := by decide +kernel
theorem cap4 : ∀ i, i < 30 → hasL bq (cL i) = false := by decide +kernel
theorem cap5 : ∀ i, i < 30 → ((UInt8.ofNat (65 + i)).toNat : Int) = 65 + (i : Int) := by decide +kernel
theorem cap6 : Lb.fIs bq = true := by decide +kernel
theorem cap7 : hasL bq [] = false := by decide +kernel
theorem cL_len (i : Nat) : (cL i).length = min i 16 := by unfold cL; rw [List.length_map, List.length_range]
theorem cL_zero : cL 0 = [] := rfl
theorem cq_fit (i : Nat) : Lb.Fit (cq i) := by
  intro p hp
  cases List.mem_singleton.1 hp
  exact ⟨by simp, by simp⟩
theorem bq_fit : Lb.Fit bq := by
  intro p hp
  cases List.mem_singleton.1 hp
  exact ⟨by decide, by decide⟩
theorem cap_in {n : Int} (i : Nat) (h : n - 100 < 1) : advL n (cL i) = cL i := by
  unfold advL cL
  rw [List.map_map]
  have e : ∀ j ∈ List.range (min i 16), ((fun x : List Lb.Pr × List Smp => (x.1, fg (n - 100) x.2)) ∘ fun j => (cq j, [((1 : Int), false, ((j * 1000000 : Nat) : Int))])) j = (cq j, [((1 : Int), false, ((j * 1000000 : Nat) : Int))]) := fun j _ => by
    show (cq j, fg (n - 100) _) = _
    congr 1
    unfold fg
    rw [if_neg (by show ¬ (1 : Int) ≤ n - 100; omega)]
  rw [List.map_congr_left e]
  refine List.filter_eq_self.2 fun x hx => ?_
  obtain ⟨j, _, rfl⟩ := List.mem_map.1 hx
  rfl
theorem cap_out {n : Int} (i : Nat) (h : ¬ n - 100 < 1) : advL n (cL i) = [] := by
  unfold advL cL
  rw [List.map_map]
  refine List.filter_eq_nil_iff.2 fun x hx => ?_
  obtain ⟨j, _, rfl⟩ := List.mem_map.1 hx
  show ¬ (!(fg (n - 100) [((1 : Int), false, ((j * 1000000 : Nat) : Int))]).isEmpty) = true
  unfold fg
  rw [if_pos (by show (1 : Int) ≤ n - 100; omega)]
  simp [fg]
theorem cap_e {n : Int} {L : HL} (hL : hasL bq L = false) (h0 : 0 ≤ n) : addEL n L bq n = if 16 ≤ L.length then 151 else 0 := by
  have e : adE [] 100 n n = 0 := by unfold adE; rw [if_neg (by omega), if_neg (by simp)]
  unfold addEL
  rw [if_neg (by rw [cap6]; decide), if_neg (by rw [hL]; decide), if_neg (by rw [e]; decide)]
theorem cap_l {n : Int} {L : HL} (hL : hasL bq L = false) (h0 : 0 ≤ n) (h16 : L.length < 16) : (addLL n L bq (n, false, 0)).length = L.length + 1 := by
  have e : addEL n L bq n = 0 := by rw [cap_e hL h0, if_neg (by omega)]
  unfold addLL
  rw [if_neg (by show ¬ addEL n L bq n ≠ 0; rw [e]; decide), if_neg (by rw [hL]; decide), List.length_append, List.length_cons, List.length_take, List.length_drop]
  omega
theorem onw_c (g : Nat) (h : g ≤ 255) : onw 1 (1 + (g : Int)) = 1 + (g : Int) := by unfold onw; omega
theorem S2.forget {w0 w : World} {sb : Nat} {now : Int} {L : HL} {v : Value} {q : List Lb.Pr} (h : S2 w0 w sb now L v q) : S2 w0 w sb now L (.slice none 0 0) [] := h.with w (pq_nil w) (Below.refl _ _) (fun g e => by simp [Value.ownBlock] at e)
theorem s2_lenK {w0 w : World} {sb : Nat} {now : Int} {L : HL} {v : Value} {q : List Lb.Pr} (h : S2 w0 w sb now L v q) {m : Int} (hm : (L.length : Int) = m) : Calls Tryz.prog 19 #[.pointer (some ⟨sb, 0, none⟩)] w fun e w' => e = .returned (.int .i64 m) ∧ Below w.heap.size w w' := by
  have := s2_len h
  rw [hm] at this
  exact this
/-- A text of one byte, out of a slice. -/
theorem conv_one (W : World) (b : Nat) (u : UInt8) (hb : W.heap[b]? = some (.cells #[.int .u8 (u.toNat : Int)] 5)) : (Go.convert 47 9 (.slice (some ⟨b, 0, none⟩) 1 1)).run Tryz.prog W = .ok (.string ⟨[u].toArray⟩) W :=
  run_convert_bytes_back W 47 9 5 ⟨b, 0, none⟩ 1 [u] Tryz.underlying47 Tryz.underlying5 Tryz.underlying9 (fun j hj => by
    obtain rfl : j = 0 := by simpa using hj
    exact (cell_atB hb 0).trans rfl)
set_option maxHeartbeats 8000000 in
set_option maxRecDepth 100000 in
theorem cap_any (nn' idle : Nat) (w : World) (hn : nn' ≤ 255) (hi : idle ≤ 255) : Calls Tryz.prog 4 #[.int .u8 nn', .int .u8 idle] w fun e w' => e = .returned (.bool true) ∧ Below w.heap.size w w' := by
  go_enter Tryz.func4, Tryz.ntmps4
  go_wp2_with fail
  refine (known_any _).mono ?_
  rintro e w1 ⟨rfl, hb1⟩
  go_wp2_with fail
  refine (new_s2 w w1 hb1).mono ?_
  rintro e w2 ⟨rfl, h2⟩
  clear hb1
  generalize w1.heap.size = sb at *
  go_wp2_with fail
  refine (s2_advK h2 1 (by decide +kernel) (show advL 1 [] = cL 0 from rfl)).mono ?_
  rintro e w3 ⟨rfl, h3⟩
  clear h2
  go_wp2
  obtain ⟨k, hk, hk30⟩ : ∃ k : Nat, (nn' : Int) % 30 = k ∧ k < 30 := ⟨nn' % 30, by omega, by omega⟩
  rw [hk]
  clear hk
  go_loopw [7] (fun v wr => ∃ i : Nat, i ≤ k ∧ v = .int .i64 i ∧ Hid (S2 w wr sb 1 (cL i) (.slice none 0 0) [])) (fun v _ => k - (intOf v).toNat)
  case atStart => exact ⟨0, by omega, rfl, h3.forget⟩
  case round =>
    obtain ⟨i, hik, rfl, hst⟩ := hrel
    by_cases hlt : i < k
    · have hd : decide ((i : Int) < (k : Int)) = true := decide_eq_true (by omega)
      have hi30 : i < 30 := by omega
      have hcu := cap5 i hi30
      have hof := fun W => kn_of (i : Int) ((i * 1000000 : Nat) : Int) (cap3 i hi30) (by unfold R64; omega) W
      have hE := cap1 i hi30
      have hLL := cap2 i hi30
      obtain ⟨u, hu, hcq⟩ : ∃ u : UInt8, (u.toNat : Int) = 65 + (i : Int) ∧ cq i = [([97], [u])] := ⟨_, hcu, rfl⟩
      have ew1 : IntKind.u8.wrap (i : Int) = (i : Int) := by simp [IntKind.wrap, IntKind.bits, IntKind.signed]; omega
      have ew2 : IntKind.u8.wrap (65 + (i : Int)) = (u.toNat : Int) := by rw [hu]; simp [IntKind.wrap, IntKind.bits, IntKind.signed]; omega
      have hcf := cq_fit i
      have HU : Hid _ := hu
      clear hu
      rw [hcq] at hcf hE hLL
      obtain ⟨ev, hev⟩ : ∃ e : Int, e = addEL 1 (cL i) [([97], [u])] 1 := ⟨_, rfl⟩
      have HEV : Hid (ev = if i < 16 then 0 else 151) := hev.trans hE
      have HE : Hid (addEL 1 (cL i) [([97], [u])] 1 = ev) := hev.symm
      clear hev
      have HLL : Hid _ := hLL
      have hvr : R64 ((i * 1000000 : Nat) : Int) := by unfold R64; omega
      clear hcu hE hLL h3 hcq
      generalize hv : ((i * 1000000 : Nat) : Int) = vi at *
      clear hv
      have hst0 := hst.out
      have hd0 := hst0.later (Below.refl _ wr).drew
      go_upto_region 9 with fail
      go_cut [8] from 25 to 36 (fun v wx => v = .int .i64 ev ∧ Hid (S2 w wx sb 1 (cL (i + 1)) (.slice none 0 0) []))
      case first =>
        refine wp_region_noPanic ?_
        refine wp_region_held_drew (S := fun _ : World => True) (by kernel_rfl) trivial (fun _ => ?_)
        refine take_at 0 (some 25) (.pointer (some ⟨sb, 0, none⟩)) rfl rfl (by kernel_rfl) (by kernel_rfl) (by kernel_rfl) (fun _ _ _ h => h) (by rfl) (fun W hSw => by first | (go_simp; done) | (go_simp; simp only [ew1, ew2]; done) | (go_simp; trace_state; fail)) trivial ?_
        simp only [Act.put, List.setIfInBounds_toArray, List.set_cons_zero, List.set_cons_succ]
        refine take_at 1 (some 26) (.int .i64 i) rfl rfl (by kernel_rfl) (by kernel_rfl) (by kernel_rfl) (fun _ _ _ h => h) (by rfl) (fun W hSw => by first | (go_simp; done) | (go_simp; simp only [ew1, ew2]; done) | (go_simp; trace_state; fail)) trivial ?_
        simp only [Act.put, List.setIfInBounds_toArray, List.set_cons_zero, List.set_cons_succ]
        refine take_at 2 (some 27) (.int .u8 i) rfl rfl (by kernel_rfl) (by kernel_rfl) (by kernel_rfl) (fun _ _ _ h => h) (by rfl) (fun W hSw => by first | (go_simp; done) | (go_simp; simp only [ew1, ew2]; done) | (go_simp; trace_state; fail)) trivial ?_
        simp only [Act.put, List.setIfInBounds_toArray, List.set_cons_zero, List.set_cons_succ]
        refine take_at 3 (some 28) (.int .u8 (u.toNat : Int)) rfl rfl (by kernel_rfl) (by kernel_rfl) (by kernel_rfl) (fun _ _ _ h => h) (by rfl) (fun W hSw => by first | (go_simp; done) | (go_simp; simp only [ew1, ew2]; done) | (go_simp; trace_state; fail)) trivial ?_
        simp only [Act.put, List.setIfInBounds_toArray, List.set_cons_zero, List.set_cons_succ]
        refine take_at 8 (some 33) (.int .i64 i) rfl rfl (by kernel_rfl) (by kernel_rfl) (by kernel_rfl) (fun _ _ _ h => h) (by rfl) (fun W hSw => by first | (go_simp; done) | (go_simp; simp only [ew1, ew2]; done) | (go_simp; trace_state; fail)) trivial ?_
        simp only [Act.put, List.setIfInBounds_toArray, List.set_cons_zero, List.set_cons_succ]
        refine wpAnyH_ready (rs := [4, 9]) (by kernel_rfl) (by simp) ?_
        refine AllReadyH.cons rfl (fun K hK => ?_) (AllReadyH.cons rfl (fun K hK => ?_) AllReadyH.nil)
        · skip
          go_simp
          have py1 : (wr.alloc (.cells #[.int .u8 (u.toNat : Int)] 5)).drew.heap[wr.heap.size]? = some (.cells #[.int .u8 (u.toNat : Int)] 5) := heap_newB wr (.cells #[.int .u8 (u.toNat : Int)] 5)
          have hy1 := (hst0.later (bal (Below.refl _ _) (.cells #[.int .u8 (u.toNat : Int)] 5))).later (Below.refl _ _).drew
          generalize wr.heap.size = sB at *
          generalize (wr.alloc (.cells #[.int .u8 (u.toNat : Int)] 5)).drew = y1 at *
          refine hK.out _ _ trivial (fun _ => ?_)
          clear hK K
          refine wpAnyH_ready (rs := [5, 9]) (by kernel_rfl) (by simp) ?_
          refine AllReadyH.cons rfl (fun K hK => ?_) (AllReadyH.cons rfl (fun K hK => ?_) AllReadyH.nil)
          · skip
            have hcv := conv_one _ sB u (by assumption)
            go_simp
            refine hK.out _ _ trivial (fun _ => ?_)
            clear hK K
            refine take_at 6 (some 31) (.agg #[.string ⟨#[97]⟩, .string ⟨#[u]⟩]) rfl rfl (by kernel_rfl) (by kernel_rfl) (by kernel_rfl) (fun _ _ _ h => h) (by rfl) (fun W hSw => by first | (go_simp; done) | (go_simp; simp only [ew1, ew2]; done) | (go_simp; trace_state; fail)) trivial ?_
            simp only [Act.put, List.setIfInBounds_toArray, List.set_cons_zero, List.set_cons_succ]
            refine wpAnyH_ready (rs := [7, 9]) (by kernel_rfl) (by simp) ?_
            refine AllReadyH.cons rfl (fun K hK => ?_) (AllReadyH.cons rfl (fun K hK => ?_) AllReadyH.nil)
            · skip
              go_simp
              have hy3 : S2 w _ sb 1 (cL i) _ [([97], [u])] := hy1.with _ (set_one (y1) [97] [u]) (bal (Below.refl _ _) _) (own_new _ 1 1)
              generalize (y1).heap.size = lB at *
              generalize (y1).alloc (.cells #[Lb.tx [97], Lb.tx [u]] 45) = y3 at *
              refine hK.out _ _ trivial (fun _ => ?_)
              clear hK K
              refine wpAnyH_ready (rs := [9]) (by kernel_rfl) (by simp) ?_
              refine AllReadyH.cons rfl (fun K hK => ?_) AllReadyH.nil
              go_simp
              refine (hof _).mono ?_
              rintro e y4 ⟨rfl, hby4⟩
              have hy4 := hy3.later hby4
              refine hK.out _ _ trivial (fun _ => ?_)
              clear hK K
              refine take_at 10 (some 35) (.agg #[.int .i64 1, .bool false, .int .i64 vi]) rfl rfl (by kernel_rfl) (by kernel_rfl) (by kernel_rfl) (fun _ _ _ h => h) (by rfl) (fun W hSw => by first | (go_simp; done) | (go_simp; simp only [ew1, ew2]; done) | (go_simp; trace_state; fail)) trivial ?_
              simp only [Act.put, List.setIfInBounds_toArray, List.set_cons_zero, List.set_cons_succ]
              refine wpAnyH_ready (rs := [11]) (by kernel_rfl) (by simp) ?_
              refine AllReadyH.cons rfl (fun K hK => ?_) AllReadyH.nil
              go_simp
              refine (s2_addK hy4 hcf ((1 : Int), false, vi) hvr HE.out HLL.out).mono ?_
              rintro e wz ⟨rfl, hz⟩
              refine hK.out _ _ trivial (fun _ => ?_)
              clear hK K
              refine take_at 12 (some 8) (.int .i64 ev) rfl rfl (by kernel_rfl) (by kernel_rfl) (by kernel_rfl) (fun _ _ _ h => h) (by rfl) (fun W hSw => by first | (go_simp; done) | (go_simp; simp only [ew1, ew2]; done) | (go_simp; trace_state; fail)) trivial ?_
              simp only [Act.put, List.setIfInBounds_toArray, List.set_cons_zero, List.set_cons_succ]
              refine wpAnyH_done (by kernel_rfl) ?_ _
              refine NoPanic.normal ?_
              go_wp2_with fail
              go_meet
              case rel => exact ⟨rfl, hz.forget⟩
            · skip
              go_simp
              refine (hof _).mono ?_
              rintro e y5 ⟨rfl, hby5⟩
              have hy5 := hy1.later hby5
              refine hK.out _ _ trivial (fun _ => ?_)
              clear hK K
              refine take_at 10 (some 35) (.agg #[.int .i64 1, .bool false, .int .i64 vi]) rfl rfl (by kernel_rfl) (by kernel_rfl) (by kernel_rfl) (fun _ _ _ h => h) (by rfl) (fun W hSw => by first | (go_simp; done) | (go_simp; simp only [ew1, ew2]; done) | (go_simp; trace_state; fail)) trivial ?_
              simp only [Act.put, List.setIfInBounds_toArray, List.set_cons_zero, List.set_cons_succ]
              refine wpAnyH_ready (rs := [7]) (by kernel_rfl) (by simp) ?_
              refine AllReadyH.cons rfl (fun K hK => ?_) AllReadyH.nil
              go_simp
              have hy6 : S2 w _ sb 1 (cL i) _ [([97], [u])] := hy5.with _ (set_one (y5) [97] [u]) (bal (Below.refl _ _) _) (own_new _ 1 1)
              generalize (y5).heap.size = lB at *
              generalize (y5).alloc (.cells #[Lb.tx [97], Lb.tx [u]] 45) = y6 at *
              refine hK.out _ _ trivial (fun _ => ?_)
              clear hK K
              refine wpAnyH_ready (rs := [11]) (by kernel_rfl) (by simp) ?_
              refine AllReadyH.cons rfl (fun K hK => ?_) AllReadyH.nil
              go_simp
              refine (s2_addK hy6 hcf ((1 : Int), false, vi) hvr HE.out HLL.out).mono ?_
              rintro e wz ⟨rfl, hz⟩
              refine hK.out _ _ trivial (fun _ => ?_)
              clear hK K
              refine take_at 12 (some 8) (.int .i64 ev) rfl rfl (by kernel_rfl) (by kernel_rfl) (by kernel_rfl) (fun _ _ _ h => h) (by rfl) (fun W hSw => by first | (go_simp; done) | (go_simp; simp only [ew1, ew2]; done) | (go_simp; trace_state; fail)) trivial ?_
              simp only [Act.put, List.setIfInBounds_toArray, List.set_cons_zero, List.set_cons_succ]
              refine wpAnyH_done (by kernel_rfl) ?_ _
              refine NoPanic.normal ?_
              go_wp2_with fail
              go_meet
              case rel => exact ⟨rfl, hz.forget⟩
          · skip
            go_simp
            refine (hof _).mono ?_
            rintro e y7 ⟨rfl, hby7⟩
            have hy7 := hy1.later hby7
            have hqy7 := (hby7.block sB (Array.getElem?_eq_some_iff.1 (by assumption)).1).trans (by assumption)
            refine hK.out _ _ trivial (fun _ => ?_)
            clear hK K
            refine take_at 10 (some 35) (.agg #[.int .i64 1, .bool false, .int .i64 vi]) rfl rfl (by kernel_rfl) (by kernel_rfl) (by kernel_rfl) (fun _ _ _ h => h) (by rfl) (fun W hSw => by first | (go_simp; done) | (go_simp; simp only [ew1, ew2]; done) | (go_simp; trace_state; fail)) trivial ?_
            simp only [Act.put, List.setIfInBounds_toArray, List.set_cons_zero, List.set_cons_succ]
            refine wpAnyH_ready (rs := [5]) (by kernel_rfl) (by simp) ?_
            refine AllReadyH.cons rfl (fun K hK => ?_) AllReadyH.nil
            have hcv := conv_one _ sB u (by assumption)
            go_simp
            refine hK.out _ _ trivial (fun _ => ?_)
            clear hK K
            refine take_at 6 (some 31) (.agg #[.string ⟨#[97]⟩, .string ⟨#[u]⟩]) rfl rfl (by kernel_rfl) (by kernel_rfl) (by kernel_rfl) (fun _ _ _ h => h) (by rfl) (fun W hSw => by first | (go_simp; done) | (go_simp; simp only [ew1, ew2]; done) | (go_simp; trace_state; fail)) trivial ?_
            simp only [Act.put, List.setIfInBounds_toArray, List.set_cons_zero, List.set_cons_succ]
            refine wpAnyH_ready (rs := [7]) (by kernel_rfl) (by simp) ?_
            refine AllReadyH.cons rfl (fun K hK => ?_) AllReadyH.nil
            go_simp
            have hy9 : S2 w _ sb 1 (cL i) _ [([97], [u])] := hy7.with _ (set_one (y7) [97] [u]) (bal (Below.refl _ _) _) (own_new _ 1 1)
            generalize (y7).heap.size = lB at *
            generalize (y7).alloc (.cells #[Lb.tx [97], Lb.tx [u]] 45) = y9 at *
            refine hK.out _ _ trivial (fun _ => ?_)
            clear hK K
            refine wpAnyH_ready (rs := [11]) (by kernel_rfl) (by simp) ?_
            refine AllReadyH.cons rfl (fun K hK => ?_) AllReadyH.nil
            go_simp
            refine (s2_addK hy9 hcf ((1 : Int), false, vi) hvr HE.out HLL.out).mono ?_
            rintro e wz ⟨rfl, hz⟩
            refine hK.out _ _ trivial (fun _ => ?_)
            clear hK K
            refine take_at 12 (some 8) (.int .i64 ev) rfl rfl (by kernel_rfl) (by kernel_rfl) (by kernel_rfl) (fun _ _ _ h => h) (by rfl) (fun W hSw => by first | (go_simp; done) | (go_simp; simp only [ew1, ew2]; done) | (go_simp; trace_state; fail)) trivial ?_
            simp only [Act.put, List.setIfInBounds_toArray, List.set_cons_zero, List.set_cons_succ]
            refine wpAnyH_done (by kernel_rfl) ?_ _
            refine NoPanic.normal ?_
            go_wp2_with fail
            go_meet
            case rel => exact ⟨rfl, hz.forget⟩
        · skip
          go_simp
          refine (hof _).mono ?_
          rintro e y10 ⟨rfl, hby10⟩
          have hy10 := hd0.later hby10
          refine hK.out _ _ trivial (fun _ => ?_)
          clear hK K
          refine take_at 10 (some 35) (.agg #[.int .i64 1, .bool false, .int .i64 vi]) rfl rfl (by kernel_rfl) (by kernel_rfl) (by kernel_rfl) (fun _ _ _ h => h) (by rfl) (fun W hSw => by first | (go_simp; done) | (go_simp; simp only [ew1, ew2]; done) | (go_simp; trace_state; fail)) trivial ?_
          simp only [Act.put, List.setIfInBounds_toArray, List.set_cons_zero, List.set_cons_succ]
          refine wpAnyH_ready (rs := [4]) (by kernel_rfl) (by simp) ?_
          refine AllReadyH.cons rfl (fun K hK => ?_) AllReadyH.nil
          go_simp
          have py11 := heap_newB (y10) (.cells #[.int .u8 (u.toNat : Int)] 5)
          have hy11 := hy10.later (bal (Below.refl _ _) (.cells #[.int .u8 (u.toNat : Int)] 5))
          generalize (y10).heap.size = sB at *
          generalize (y10).alloc (.cells #[.int .u8 (u.toNat : Int)] 5) = y11 at *
          refine hK.out _ _ trivial (fun _ => ?_)
          clear hK K
          refine wpAnyH_ready (rs := [5]) (by kernel_rfl) (by simp) ?_
          refine AllReadyH.cons rfl (fun K hK => ?_) AllReadyH.nil
          have hcv := conv_one _ sB u (by assumption)
          go_simp
          refine hK.out _ _ trivial (fun _ => ?_)
          clear hK K
          refine take_at 6 (some 31) (.agg #[.string ⟨#[97]⟩, .string ⟨#[u]⟩]) rfl rfl (by kernel_rfl) (by kernel_rfl) (by kernel_rfl) (fun _ _ _ h => h) (by rfl) (fun W hSw => by first | (go_simp; done) | (go_simp; simp only [ew1, ew2]; done) | (go_simp; trace_state; fail)) trivial ?_
          simp only [Act.put, List.setIfInBounds_toArray, List.set_cons_zero, List.set_cons_succ]
          refine wpAnyH_ready (rs := [7]) (by kernel_rfl) (by simp) ?_
          refine AllReadyH.cons rfl (fun K hK => ?_) AllReadyH.nil
          go_simp
          have hy13 : S2 w _ sb 1 (cL i) _ [([97], [u])] := hy11.with _ (set_one (y11) [97] [u]) (bal (Below.refl _ _) _) (own_new _ 1 1)
          generalize (y11).heap.size = lB at *
          generalize (y11).alloc (.cells #[Lb.tx [97], Lb.tx [u]] 45) = y13 at *
          refine hK.out _ _ trivial (fun _ => ?_)
          clear hK K
          refine wpAnyH_ready (rs := [11]) (by kernel_rfl) (by simp) ?_
          refine AllReadyH.cons rfl (fun K hK => ?_) AllReadyH.nil
          go_simp
          refine (s2_addK hy13 hcf ((1 : Int), false, vi) hvr HE.out HLL.out).mono ?_
          rintro e wz ⟨rfl, hz⟩
          refine hK.out _ _ trivial (fun _ => ?_)
          clear hK K
          refine take_at 12 (some 8) (.int .i64 ev) rfl rfl (by kernel_rfl) (by kernel_rfl) (by kernel_rfl) (fun _ _ _ h => h) (by rfl) (fun W hSw => by first | (go_simp; done) | (go_simp; simp only [ew1, ew2]; done) | (go_simp; trace_state; fail)) trivial ?_
          simp only [Act.put, List.setIfInBounds_toArray, List.set_cons_zero, List.set_cons_succ]
          refine wpAnyH_done (by kernel_rfl) ?_ _
          refine NoPanic.normal ?_
          go_wp2_with fail
          go_meet
          case rel => exact ⟨rfl, hz.forget⟩
      case rest =>
        obtain ⟨rfl, h4⟩ := hcut
        by_cases h16 : i < 16
        · have d2 : decide ((i : Int) < 16) = true := decide_eq_true (by omega)
          obtain rfl : ev = 0 := by rw [HEV.out, if_pos h16]
          go_wp2
          go_roundw
          case rel => exact ⟨i + 1, by omega, by go_num, h4⟩
          case measure => simp [intOf]; omega
        · have d2 : decide ((i : Int) < 16) = false := decide_eq_false (by omega)
          obtain rfl : ev = 151 := by rw [HEV.out, if_neg h16]
          go_wp2
          go_roundw
          case rel => exact ⟨i + 1, by omega, by go_num, h4⟩
          case measure => simp [intOf]; omega
    · obtain rfl : i = k := by omega
      have hi30 : i < 30 := hk30
      have hd : decide ((i : Int) < (i : Int)) = false := decide_eq_false (by omega)
      have h4 := hst.out
      clear h3 hst
      go_wp2_with fail
      refine (s2_advK h4 (1 + (idle : Int)) (onw_c idle hi) rfl).mono ?_
      rintro e w5 ⟨rfl, h5⟩
      clear h4
      by_cases hz : 1 + (idle : Int) - 100 < 1
      · rw [cap_in i hz] at h5
        have hd2 : decide (1 ≤ 1 + (idle : Int) - 100) = false := decide_eq_false (by omega)
        have hT0 : 0 ≤ 1 + (idle : Int) := by omega
        have hT1 : 1 + (idle : Int) ≤ 256 := by omega
        clear hz
        generalize 1 + (idle : Int) = T at *
        by_cases h16 : i < 16
        · have hm : min (i : Int) 16 = (i : Int) := by omega
          have hl : (cL i).length = i := by rw [cL_len]; omega
          have HL : Hid (addEL T (cL i) bq T = 0) := by show _ = _; rw [cap_e (cap4 i hi30) hT0, if_neg (by omega)]
          have HN : Hid (((addLL T (cL i) bq (T, false, 0)).length : Int) = (i : Int) + 1) := by show _ = _; rw [cap_l (cap4 i hi30) hT0 (by omega), hl]; omega
          have d3 : decide ((i : Int) < 16) = true := decide_eq_true (by omega)
          clear hl
          go_wp2_with fail
          have h6 : S2 w _ sb T _ _ bq := h5.with _ (set_one w5 [98] [120]) (bal (Below.refl _ _) _) (own_new _ 1 1)
          clear h5
          go_simp
          refine (s2_addK h6 bq_fit (T, false, 0) (r64_lit rfl) HL.out rfl).mono ?_
          rintro e w7 ⟨rfl, h7⟩
          clear h6
          go_wp2_with fail
          refine (s2_lenK h7 HN.out).mono ?_
          rintro e w8 ⟨rfl, hb8⟩
          have hbf := (h7.later hb8).b
          clear h7
          go_wp2
          all_goals
            go_ret
            exact ⟨rfl, hbf⟩
        · have hm : min (i : Int) 16 = 16 := by omega
          have hl : (cL i).length = 16 := by rw [cL_len]; omega
          have HL : Hid (addEL T (cL i) bq T = 151) := by show _ = _; rw [cap_e (cap4 i hi30) hT0, if_pos (by omega)]
          have HN : Hid (((addLL T (cL i) bq (T, false, 0)).length : Int) = 16) := by show _ = _; unfold addLL; rw [if_pos (by rw [HL.out]; decide), hl]; rfl
          clear hl
          go_wp2_with fail
          have h6 : S2 w _ sb T _ _ bq := h5.with _ (set_one w5 [98] [120]) (bal (Below.refl _ _) _) (own_new _ 1 1)
          clear h5
          go_simp
          refine (s2_addK h6 bq_fit (T, false, 0) (r64_lit rfl) HL.out rfl).mono ?_
          rintro e w7 ⟨rfl, h7⟩
          clear h6
          go_wp2_with fail
          refine (s2_lenK h7 HN.out).mono ?_
          rintro e w8 ⟨rfl, hb8⟩
          go_wp2_with fail
          refine (s2_lenK (h7.later hb8) HN.out).mono ?_
          rintro e w9 ⟨rfl, hb9⟩
          have hbf := ((h7.later hb8).later hb9).b
          clear h7
          go_wp2
          all_goals
            go_ret
            exact ⟨rfl, hbf⟩
      · rw [cap_out i hz] at h5
        have hd2 : decide (1 ≤ 1 + (idle : Int) - 100) = true := decide_eq_true (by omega)
        have hT0 : 0 ≤ 1 + (idle : Int) := by omega
        have hT1 : 1 + (idle : Int) ≤ 256 := by omega
        clear hz
        generalize 1 + (idle : Int) = T at *
        have HL : Hid (addEL T [] bq T = 0) := by show _ = _; rw [cap_e cap7 hT0, if_neg (by decide)]
        have HN : Hid (((addLL T [] bq (T, false, 0)).length : Int) = 1) := by show _ = _; rw [cap_l cap7 hT0 (by decide)]; rfl
        go_wp2_with fail
        have h6 : S2 w _ sb T _ _ bq := h5.with _ (set_one w5 [98] [120]) (bal (Below.refl _ _) _) (own_new _ 1 1)
        clear h5
        go_simp
        refine (s2_addK h6 bq_fit (T, false, 0) (r64_lit rfl) HL.out rfl).mono ?_
        rintro e w7 ⟨rfl, h7⟩
        clear h6
        go_wp2_with fail
        refine (s2_lenK h7 HN.out).mono ?_
        rintro e w8 ⟨rfl, hb8⟩
        have hbf := (h7.later hb8).b
        clear h7
        go_wp2
        all_goals
          go_ret
          exact ⟨rfl, hbf⟩
end Go.Proofs.YtjgckfcocmhnhaaGreatDoor.Sr
