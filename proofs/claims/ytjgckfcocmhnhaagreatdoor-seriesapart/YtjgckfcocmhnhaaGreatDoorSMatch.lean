/- SeriesMatch: those that match are told, in their order, and none else. -/
import Derived.Test.YtjgckfcocmhnhaaGreatDoorSCap
namespace Go.Proofs.YtjgckfcocmhnhaaGreatDoor.Sr
open Go.RowKit Rn

def mu (j : Nat) : UInt8 := UInt8.ofNat (97 + j)
def mq (j : Nat) : List Lb.Pr := sq [109] (mu j)
def mL (mask i : Nat) : HL := ((List.range i).filter fun j => mask.testBit j).map fun j => (mq j, [((0 : Int), false, (0 : Int))])
def mM (k : Nat) (b : Bool) : Lb.Mat := ⟨[118], if b then 2 else 1, [mu k]⟩
def sel (mask k : Nat) (b : Bool) (j : Nat) : Bool := mask.testBit j && (decide (j = k) != b)
def tL (mask k : Nat) (b : Bool) (i : Nat) : List (List Lb.Pr) := ((List.range i).filter (sel mask k b)).map mq
theorem ma1 : ∀ i, i < 12 → ∀ j, j < i → Lb.fCmp (mq j) (mq i) < 0 := by decide +kernel
theorem ma2 : ∀ i, i < 12 → Lb.fIs (mq i) = true := by decide +kernel
theorem ma3 : ∀ i, i < 12 → ((mu i).toNat : Int) = 97 + (i : Int) := by decide +kernel
theorem ma4 : ∀ k, k < 12 → ∀ j, j < 12 → Lb.fAll (mq j) [mM k false] = (decide (j = k) != false) := by decide +kernel
theorem ma5 : ∀ k, k < 12 → ∀ j, j < 12 → Lb.fAll (mq j) [mM k true] = (decide (j = k) != true) := by decide +kernel
theorem mq_fit (i : Nat) : Lb.Fit (mq i) := by
  intro p hp
  unfold mq sq at hp
  simp only [List.mem_cons, List.not_mem_nil, or_false] at hp
  rcases hp with rfl | rfl <;> exact ⟨by simp, by simp⟩
theorem mL_zero (mask : Nat) : mL mask 0 = [] := rfl
theorem mL_len (mask i : Nat) : (mL mask i).length ≤ i := by
  unfold mL
  rw [List.length_map]
  exact Nat.le_trans (List.length_filter_le _ _) (by rw [List.length_range]; exact Nat.le_refl _)
theorem mL_pos (mask i : Nat) (h : i < 12) : posL (mq i) (mL mask i) = (mL mask i).length := by
  unfold posL
  refine List.findIdx_eq_length.2 fun x hx => ?_
  unfold mL at hx
  obtain ⟨j, hj, rfl⟩ := List.mem_map.1 hx
  have := ma1 i h j (List.mem_range.1 (List.mem_filter.1 hj).1)
  exact decide_eq_false (by show ¬ 0 ≤ Lb.fCmp (mq j) (mq i); omega)
theorem mL_has (mask i : Nat) (h : i < 12) : hasL (mq i) (mL mask i) = false := by
  unfold hasL
  rw [mL_pos mask i h]
  simp
theorem mL_e (mask i : Nat) (h : i < 12) : addEL 0 (mL mask i) (mq i) 0 = 0 := by
  have e : adE [] 100 0 0 = 0 := by decide +kernel
  have hl := mL_len mask i
  unfold addEL
  rw [if_neg (by rw [ma2 i h]; decide), if_neg (by rw [mL_has mask i h]; decide), if_neg (by rw [e]; decide), if_neg (by omega)]
theorem mL_yes (mask i : Nat) (h : i < 12) (hb : mask.testBit i = true) : addLL 0 (mL mask i) (mq i) (0, false, 0) = mL mask (i + 1) := by
  unfold addLL
  rw [if_neg (by show ¬ addEL 0 (mL mask i) (mq i) 0 ≠ 0; rw [mL_e mask i h]; decide), if_neg (by rw [mL_has mask i h]; decide), mL_pos mask i h, List.take_length, List.drop_length]
  have e : mL mask (i + 1) = mL mask i ++ [(mq i, [((0 : Int), false, (0 : Int))])] := by
    unfold mL
    rw [List.range_succ, List.filter_append, List.map_append]
    simp [hb]
  rw [e]
  rfl
theorem mL_no (mask i : Nat) (hb : mask.testBit i = false) : mL mask (i + 1) = mL mask i := by
  unfold mL
  rw [List.range_succ, List.filter_append]
  simp [hb]
theorem ma_sets (mask k : Nat) (b : Bool) (hk : k < 12) : setsL [mM k b] (mL mask 12) = tL mask k b 12 := by
  unfold setsL mL tL
  rw [List.filter_map, List.map_map, List.filter_filter]
  have e : ((List.range 12).filter fun j => ((fun x : List Lb.Pr × List Smp => Lb.fAll x.1 [mM k b]) ∘ fun j => (mq j, [((0 : Int), false, (0 : Int))])) j && mask.testBit j) = (List.range 12).filter (sel mask k b) := by
    refine List.filter_congr fun j hj => ?_
    have hj := List.mem_range.1 hj
    unfold sel
    rw [Bool.and_comm]
    congr 1
    show Lb.fAll (mq j) [mM k b] = _
    cases b with
    | false => exact ma4 k hk j hj
    | true => exact ma5 k hk j hj
  rw [e]
  rfl
theorem ma_all (L : HL) : (setsL [] L).length = L.length := by
  unfold setsL
  rw [List.length_map]
  congr 1
  exact List.filter_eq_self.2 fun x _ => rfl
theorem tL_yes {mask k i : Nat} {b : Bool} (h : sel mask k b i = true) : tL mask k b (i + 1) = tL mask k b i ++ [mq i] := by
  unfold tL
  rw [List.range_succ, List.filter_append, List.map_append]
  simp [h]
theorem tL_no {mask k i : Nat} {b : Bool} (h : sel mask k b i = false) : tL mask k b (i + 1) = tL mask k b i := by
  unfold tL
  rw [List.range_succ, List.filter_append]
  simp [h]
theorem tL_pre (mask k : Nat) (b : Bool) (i d : Nat) : ∃ t, tL mask k b (i + d) = tL mask k b i ++ t := by
  induction d with
  | zero => exact ⟨[], by simp⟩
  | succ d ih =>
    obtain ⟨t, ht⟩ := ih
    cases hs : sel mask k b (i + d) with
    | false => exact ⟨t, by rw [← Nat.add_assoc, tL_no hs, ht]⟩
    | true => exact ⟨t ++ [mq (i + d)], by rw [← Nat.add_assoc, tL_yes hs, ht, List.append_assoc]⟩
theorem tL_at {mask k i : Nat} {b : Bool} (hi : i < 12) (h : sel mask k b i = true) : (tL mask k b i).length < (tL mask k b 12).length ∧ (tL mask k b 12).getD (tL mask k b i).length [] = mq i := by
  obtain ⟨t, ht⟩ := tL_pre mask k b (i + 1) (12 - (i + 1))
  rw [show i + 1 + (12 - (i + 1)) = 12 by omega, tL_yes h] at ht
  rw [ht]
  simp
theorem tL_len (mask k i : Nat) (b : Bool) : (tL mask k b i).length ≤ i := by
  unfold tL
  rw [List.length_map]
  exact Nat.le_trans (List.length_filter_le _ _) (by rw [List.length_range]; exact Nat.le_refl _)
theorem Qs.slice {w : World} {base : Nat} {v : Value} {L : List (List Lb.Pr)} (h : Qs w base v L) : ∃ ao cap, v = .slice ao L.length cap ∧ ∀ j, j < L.length → ∃ g u, ao = some ⟨g, 0, none⟩ ∧ w.cell? ⟨g, j, none⟩ = some u ∧ Pq w u (L.getD j []) := by
  obtain ⟨vs, ho, hj⟩ := h
  have hl := ho.1
  rcases ho.2 with ⟨rfl, h0⟩ | ⟨g, cap, cur, rfl, hb, hg, hn, _, hs, ht⟩
  · exact ⟨none, 0, by rw [h0], fun j hj => by omega⟩
  · refine ⟨_, cap, rfl, fun j hjl => ?_⟩
    obtain ⟨u, hu, hp⟩ := hj j hjl
    refine ⟨g, u, rfl, ?_, hp⟩
    rw [← hu, cell_of_row _ _ _ _ _ _ hg, ← ht, List.getElem?_take_of_lt (by omega)]
    exact (Array.getElem?_toList).symm
/-- What a bit says. -/
theorem bit_at (mask i : Nat) (h : mask < 65536) (_hi : i < 12) : bits BinOp.and IntKind.u16 ((mask : Int) / 2 ^ i) 1 = ((mask.testBit i).toNat : Int) := by
  have e0 : ((mask : Int) / 2 ^ i) = ((mask / 2 ^ i : Nat) : Int) := by rw [Int.natCast_ediv]; simp
  have hle : mask / 2 ^ i < 65536 := Nat.lt_of_le_of_lt (Nat.div_le_self _ _) h
  rw [e0, Nat.testBit_eq_decide_div_mod_eq]
  generalize mask / 2 ^ i = a at *
  have h1 : (BitVec.ofInt 16 (a : Int)).toNat = a := by
    rw [BitVec.ofInt_natCast, BitVec.toNat_ofNat]; exact Nat.mod_eq_of_lt (by omega)
  have h2 : (BitVec.ofInt 16 (1 : Int)).toNat = 1 := by decide
  show IntKind.u16.wrap ((BitVec.ofInt 16 (a : Int) &&& BitVec.ofInt 16 (1 : Int)).toNat : Int) = _
  rw [BitVec.toNat_and, h1, h2, Nat.and_one_is_mod]
  rcases Nat.mod_two_eq_zero_or_one a with e | e <;> rw [e] <;> rfl
/-- A condition in a block of its own. -/
theorem mat_one (W : World) (m : Lb.Mat) : Lb.Ms (W.alloc (.cells #[Lb.tx m.name, .int .i64 m.kind, Lb.tx m.text] 65)) (some ⟨W.heap.size, 0, none⟩) 1 [m] := by
  refine ⟨rfl, fun _ => ⟨_, _, rfl, fun j hj => ?_⟩⟩
  obtain rfl : j = 0 := by omega
  refine ⟨?_, ?_, ?_⟩ <;> simp [go_sem]
theorem mM_fit (k : Nat) (b : Bool) : Lb.FitM [mM k b] := by
  intro m hm
  cases List.mem_singleton.1 hm
  exact ⟨by simp [Lb.Big, mM], by simp [Lb.Big, mM]⟩
theorem pq_two {w : World} {v : Value} {i : Nat} (h : Pq w v (mq i)) : ∃ xb xo xc, v = .slice (some ⟨xb, xo, none⟩) 2 xc ∧ w.cell? ⟨xb, xo + 3, none⟩ = some (Lb.tx [mu i]) := by
  obtain ⟨xa, xn, xc, rfl, _, ⟨hl, hc⟩, _⟩ := h
  have hl : 2 = xn := hl
  subst hl
  obtain ⟨xb, xo, rfl, hcell⟩ := hc (by omega)
  exact ⟨xb, xo, xc, rfl, (hcell 1 (by omega)).2⟩
set_option maxHeartbeats 8000000 in
set_option maxRecDepth 100000 in
theorem match_any (mask ask : Nat) (b : Bool) (w : World) (hmask : mask < 65536) (ha : ask ≤ 255) : Calls Tryz.prog 7 #[.int .u16 mask, .int .u8 ask, .bool b] w fun e w' => e = .returned (.bool true) ∧ Below w.heap.size w w' := by
  go_enter Tryz.func7, Tryz.ntmps7
  go_wp2_with fail
  refine (known_any _).mono ?_
  rintro e w1 ⟨rfl, hb1⟩
  go_wp2_with fail
  refine (new_s2 w w1 hb1).mono ?_
  rintro e w2 ⟨rfl, h2⟩
  clear hb1
  generalize w1.heap.size = sb at *
  go_wp2
  go_loopw [8] (fun v wr => ∃ i : Nat, i ≤ 12 ∧ v = .int .u8 i ∧ Hid (S2 w wr sb 0 (mL mask i) (.slice none 0 0) [])) (fun v _ => 12 - (intOf v).toNat)
  case atStart => exact ⟨0, by omega, rfl, h2.forget⟩
  case round =>
    obtain ⟨i, hik, rfl, hst⟩ := hrel
    clear h2
    by_cases hlt : i < 12
    · have hd : decide ((i : Int) < 12) = true := decide_eq_true (by omega)
      have hbit := bit_at mask i hmask hlt
      have hbv : ((mu i).toNat : Int) = 97 + (i : Int) := ma3 i hlt
      have HMU : Hid _ := hbv
      clear hbv
      cases hz : mask.testBit i with
      | false =>
        have HL : Hid (S2 w wr sb 0 (mL mask (i + 1)) (.slice none 0 0) []) := by show S2 _ _ _ _ _ _ _; rw [mL_no mask i hz]; exact hst.out
        rw [hz] at hbit
        have hbit : bits BinOp.and IntKind.u16 ((mask : Int) / 2 ^ i) 1 = 0 := hbit
        go_wp2
        go_roundw
        case rel => exact ⟨i + 1, by omega, by go_num, HL⟩
        case measure => simp [intOf]; omega
      | true =>
        rw [hz] at hbit
        have hbit : bits BinOp.and IntKind.u16 ((mask : Int) / 2 ^ i) 1 = 1 := hbit
        have hset := fun W => set_any [109] (mu i) W
        rw [HMU.out] at hset
        go_wp2_with fail
        refine (hset _).mono ?_
        rintro e w3 ⟨lb, rfl, hpq, hlb, hb3⟩
        have h3 : S2 w w3 sb 0 (mL mask i) _ (mq i) := hst.out.with _ hpq hb3 (own_ge hlb 2 2)
        clear hpq hlb hb3 hset hst
        have HE : Hid _ := mL_e mask i hlt
        have HY : Hid _ := mL_yes mask i hlt hz
        go_wp2_with fail
        refine (s2_addK h3 (mq_fit i) (0, false, 0) (r64_lit rfl) HE.out HY.out).mono ?_
        rintro e w4 ⟨rfl, h4⟩
        clear h3
        go_wp2
        go_roundw
        case rel => exact ⟨i + 1, by omega, by go_num, h4.forget⟩
        case measure => simp [intOf]; omega
    · obtain rfl : i = 12 := by omega
      have hd : decide (((12 : Nat) : Int) < 12) = false := by decide
      obtain ⟨k, hk, hk12⟩ : ∃ k : Nat, (ask : Int) % 12 = k ∧ k < 12 := ⟨ask % 12, by omega, by omega⟩
      have hbk : ((mu k).toNat : Int) = 97 + (k : Int) := ma3 k hk12
      have hp : (wr.alloc (.cells #[.int .u8 (97 + (k : Int))] 5)).heap[wr.heap.size]? = some (.cells #[.int .u8 ((mu k).toNat : Int)] 5) := by rw [hbk]; exact heap_newB _ _
      have HBK : Hid _ := hbk
      clear hbk
      go_upto_region 10 with fail
      rw [hk]
      clear hk
      cases b with
      | false =>
        go_wp2_with (first | (refine wp_bs rfl _ rfl wr.heap.size (mu k) rfl hp ?_) | fail)
        have hms := mat_one ((wr.alloc (.cells #[.int .u8 (97 + (k : Int))] 5)).alloc (.cells #[Lb.tx [118], .int .i64 1, Lb.tx [mu k]] 65)) (mM k false)
        have es : ((wr.alloc (.cells #[.int .u8 (97 + (k : Int))] 5)).alloc (.cells #[Lb.tx [118], .int .i64 1, Lb.tx [mu k]] 65)).heap.size = wr.heap.size + 1 + 1 := by simp
        rw [es] at hms
        clear es
        have h5 : S2 w _ sb 0 (mL mask 12) (.slice none 0 0) [] := hst.out.later (bal (bal (bal (Below.refl _ _) (.cells #[.int .u8 (97 + (k : Int))] 5)) (.cells #[Lb.tx [118], .int .i64 1, Lb.tx [mu k]] 65)) (.cells #[Lb.tx [118], .int .i64 1, Lb.tx [mu k]] 65))
        have hsl := s2_sets h5 _ 1 1 [mM k false] (by omega) hms (mM_fit k false)
        rw [ma_sets mask k false hk12] at hsl
        refine hsl.mono ?_
        rintro e w6 ⟨u6, rfl, hq6, hb6⟩
        have h6 := h5.later hb6
        clear hsl hms h5 hp hst
        obtain ⟨ao, cap, rfl, hcells⟩ := hq6.slice
        obtain ⟨NN, hNN⟩ : ∃ n : Nat, (tL mask k false 12).length = n := ⟨_, rfl⟩
        have hNb : NN ≤ 12 := hNN ▸ tL_len mask k 12 false
        have HCL : Hid (∀ wr, Below w6.heap.size w6 wr → ∀ i, i < 12 → sel mask k false i = true → (tL mask k false i).length < NN ∧ ∃ g xb xo xc, ao = some ⟨g, 0, none⟩ ∧ wr.cell? ⟨g, (tL mask k false i).length, none⟩ = some (.slice (some ⟨xb, xo, none⟩) 2 xc) ∧ wr.cell? ⟨xb, xo + 3, none⟩ = some (Lb.tx [mu i])) := fun wr hwr i hi hs => by
          obtain ⟨t1, t2⟩ := tL_at hi hs
          obtain ⟨g, u, e1, e2, e3⟩ := hcells _ t1
          rw [t2] at e3
          obtain ⟨xb, xo, xc, rfl, e4⟩ := pq_two e3
          exact ⟨hNN ▸ t1, g, xb, xo, xc, e1, (hwr.cell (p := ⟨g, _, none⟩) (World.block_lt_of_cell? _ _ e2)).trans e2, (hwr.cell (p := ⟨xb, xo + 3, none⟩) (World.block_lt_of_cell? _ _ e4)).trans e4⟩
        rw [hNN]
        have HNN : Hid _ := hNN
        have H6 : Hid _ := h6
        clear hq6 hcells hNN h6
        go_wp2
        go_loopw [12, 13] (fun n v wr => ∃ i : Nat, i ≤ 12 ∧ v = .int .u8 i ∧ n = .int .i64 (tL mask k false i).length ∧ Hid (Below w6.heap.size w6 wr)) (fun _ v _ => 12 - (intOf v).toNat)
        case atStart => exact ⟨0, by omega, rfl, rfl, Below.refl _ _⟩
        case round =>
          obtain ⟨i, hik, rfl, rfl, hst⟩ := hrel
          by_cases hlt : i < 12
          · have hd : decide ((i : Int) < 12) = true := decide_eq_true (by omega)
            have hbit := bit_at mask i hmask hlt
            have hnl := tL_len mask k i false
            have hcl := HCL.out _ hst.out i hlt
            cases hz : mask.testBit i with
            | false =>
              have HN1 : Hid (tL mask k false (i + 1) = tL mask k false i) := tL_no (by unfold sel; rw [hz]; rfl)
              rw [hz] at hbit
              have hbit : bits BinOp.and IntKind.u16 ((mask : Int) / 2 ^ i) 1 = 0 := hbit
              clear hcl
              have HST2 : Hid _ := hst
              go_wp2
              go_roundw
              case rel => exact ⟨i + 1, by omega, by go_num, by rw [HN1.out], HST2.out⟩
              case measure => simp [intOf]; omega
            | true =>
              rw [hz] at hbit
              have hbit : bits BinOp.and IntKind.u16 ((mask : Int) / 2 ^ i) 1 = 1 := hbit
              by_cases hki : i = k
              · subst hki
                have hse : sel mask i false i = true := by unfold sel; rw [hz]; simp
                have hln := tL_yes hse
                obtain ⟨hnN, g, xb, xo, xc, rfl, c1, c2⟩ := hcl hse
                obtain ⟨nn, hnn⟩ : ∃ n : Nat, (tL mask i false i).length = n := ⟨_, rfl⟩
                have HN1 : Hid ((tL mask i false (i + 1)).length = nn + 1) := by show _ = _; rw [hln, List.length_append, hnn]; rfl
                have HMW : Hid (IntKind.u8.wrap (97 + (i : Int)) = ((mu i).toNat : Int)) := by show _ = _; rw [ma3 i hlt]; simp [IntKind.wrap, IntKind.bits, IntKind.signed]; omega
                rw [hnn] at hnN hnl c1 ⊢
                generalize mu i = u at *
                clear hln hse hnn hcl
                have hdn : decide ((NN : Int) ≤ (nn : Int)) = false := decide_eq_false (by omega)
                go_wp2_with fail
                have HS : Hid (∀ W, Below wr.heap.size wr W → (fun W : World => W.cell? ⟨g, nn, none⟩ = some (.slice (some ⟨xb, xo, none⟩) 2 xc) ∧ W.cell? ⟨xb, xo + 3, none⟩ = some (Lb.tx [u])) W) := fun W hW => ⟨(hW.cell (p := ⟨g, nn, none⟩) (World.block_lt_of_cell? _ _ c1)).trans c1, (hW.cell (p := ⟨xb, xo + 3, none⟩) (World.block_lt_of_cell? _ _ c2)).trans c2⟩
                clear c1 c2
                have hbd := (Below.refl wr.heap.size wr).drew
                have hS0 : (fun W : World => W.cell? ⟨g, nn, none⟩ = some (.slice (some ⟨xb, xo, none⟩) 2 xc) ∧ W.cell? ⟨xb, xo + 3, none⟩ = some (Lb.tx [u])) _ := HS.out _ hbd
                refine wp_region_noPanic ?_
                refine wp_region_held_drew (S := (fun W : World => W.cell? ⟨g, nn, none⟩ = some (.slice (some ⟨xb, xo, none⟩) 2 xc) ∧ W.cell? ⟨xb, xo + 3, none⟩ = some (Lb.tx [u]))) (by kernel_rfl) hS0 (fun _ => ?_)
                refine take_at 0 (some 64) (.int .i64 nn) rfl rfl (by kernel_rfl) (by kernel_rfl) (by kernel_rfl) (fun _ _ _ h => h) (by rfl) (fun W hSw => by obtain ⟨q0, q1⟩ := hSw; first | (go_simp; done) | (go_simp; exact HMW.out) | (go_simp; trace_state; fail)) hS0 ?_
                simp only [Act.put, List.setIfInBounds_toArray, List.set_cons_zero, List.set_cons_succ]
                refine take_at 1 (some 65) (.slice (some ⟨g, 0, none⟩) NN cap) rfl rfl (by kernel_rfl) (by kernel_rfl) (by kernel_rfl) (fun _ _ _ h => h) (by rfl) (fun W hSw => by obtain ⟨q0, q1⟩ := hSw; first | (go_simp; done) | (go_simp; exact HMW.out) | (go_simp; trace_state; fail)) hS0 ?_
                simp only [Act.put, List.setIfInBounds_toArray, List.set_cons_zero, List.set_cons_succ]
                refine take_at 2 (some 66) (.int .i64 NN) rfl rfl (by kernel_rfl) (by kernel_rfl) (by kernel_rfl) (fun _ _ _ h => h) (by rfl) (fun W hSw => by obtain ⟨q0, q1⟩ := hSw; first | (go_simp; done) | (go_simp; exact HMW.out) | (go_simp; trace_state; fail)) hS0 ?_
                simp only [Act.put, List.setIfInBounds_toArray, List.set_cons_zero, List.set_cons_succ]
                refine take_at 3 (some 67) (.bool false) rfl rfl (by kernel_rfl) (by kernel_rfl) (by kernel_rfl) (fun _ _ _ h => h) (by rfl) (fun W hSw => by obtain ⟨q0, q1⟩ := hSw; first | (go_simp; done) | (go_simp; exact HMW.out) | (go_simp; trace_state; fail)) hS0 ?_
                simp only [Act.put, List.setIfInBounds_toArray, List.set_cons_zero, List.set_cons_succ]
                refine take_at 4 (some 68) (.bool false) rfl rfl (by kernel_rfl) (by kernel_rfl) (by kernel_rfl) (fun _ _ _ h => h) (by rfl) (fun W hSw => by obtain ⟨q0, q1⟩ := hSw; first | (go_simp; done) | (go_simp; exact HMW.out) | (go_simp; trace_state; fail)) hS0 ?_
                simp only [Act.put, List.setIfInBounds_toArray, List.set_cons_zero, List.set_cons_succ]
                refine take_at 5 (some 69) (.slice (some ⟨g, 0, none⟩) NN cap) rfl rfl (by kernel_rfl) (by kernel_rfl) (by kernel_rfl) (fun _ _ _ h => h) (by rfl) (fun W hSw => by obtain ⟨q0, q1⟩ := hSw; first | (go_simp; done) | (go_simp; exact HMW.out) | (go_simp; trace_state; fail)) hS0 ?_
                simp only [Act.put, List.setIfInBounds_toArray, List.set_cons_zero, List.set_cons_succ]
                refine take_at 6 (some 70) (.int .i64 nn) rfl rfl (by kernel_rfl) (by kernel_rfl) (by kernel_rfl) (fun _ _ _ h => h) (by rfl) (fun W hSw => by obtain ⟨q0, q1⟩ := hSw; first | (go_simp; done) | (go_simp; exact HMW.out) | (go_simp; trace_state; fail)) hS0 ?_
                simp only [Act.put, List.setIfInBounds_toArray, List.set_cons_zero, List.set_cons_succ]
                refine take_at 7 (some 71) (.pointer (some ⟨g, nn, none⟩)) rfl rfl (by kernel_rfl) (by kernel_rfl) (by kernel_rfl) (fun _ _ _ h => h) (by rfl) (fun W hSw => by obtain ⟨q0, q1⟩ := hSw; first | (go_simp; done) | (go_simp; exact HMW.out) | (go_simp; trace_state; fail)) hS0 ?_
                simp only [Act.put, List.setIfInBounds_toArray, List.set_cons_zero, List.set_cons_succ]
                refine take_at 8 (some 72) (.slice (some ⟨xb, xo, none⟩) 2 xc) rfl rfl (by kernel_rfl) (by kernel_rfl) (by kernel_rfl) (fun _ _ _ h => h) (by rfl) (fun W hSw => by obtain ⟨q0, q1⟩ := hSw; first | (go_simp; done) | (go_simp; exact HMW.out) | (go_simp; trace_state; fail)) hS0 ?_
                simp only [Act.put, List.setIfInBounds_toArray, List.set_cons_zero, List.set_cons_succ]
                refine take_at 9 (some 73) (.pointer (some ⟨xb, xo + 2, none⟩)) rfl rfl (by kernel_rfl) (by kernel_rfl) (by kernel_rfl) (fun _ _ _ h => h) (by rfl) (fun W hSw => by obtain ⟨q0, q1⟩ := hSw; first | (go_simp; done) | (go_simp; exact HMW.out) | (go_simp; trace_state; fail)) hS0 ?_
                simp only [Act.put, List.setIfInBounds_toArray, List.set_cons_zero, List.set_cons_succ]
                refine take_at 10 (some 74) (.pointer (some ⟨xb, xo + 3, none⟩)) rfl rfl (by kernel_rfl) (by kernel_rfl) (by kernel_rfl) (fun _ _ _ h => h) (by rfl) (fun W hSw => by obtain ⟨q0, q1⟩ := hSw; first | (go_simp; done) | (go_simp; exact HMW.out) | (go_simp; trace_state; fail)) hS0 ?_
                simp only [Act.put, List.setIfInBounds_toArray, List.set_cons_zero, List.set_cons_succ]
                refine take_at 11 (some 75) (Lb.tx [u]) rfl rfl (by kernel_rfl) (by kernel_rfl) (by kernel_rfl) (fun _ _ _ h => h) (by rfl) (fun W hSw => by obtain ⟨q0, q1⟩ := hSw; first | (go_simp; done) | (go_simp; exact HMW.out) | (go_simp; trace_state; fail)) hS0 ?_
                simp only [Act.put, List.setIfInBounds_toArray, List.set_cons_zero, List.set_cons_succ]
                refine take_at 12 (some 76) (.int .u8 i) rfl rfl (by kernel_rfl) (by kernel_rfl) (by kernel_rfl) (fun _ _ _ h => h) (by rfl) (fun W hSw => by obtain ⟨q0, q1⟩ := hSw; first | (go_simp; done) | (go_simp; exact HMW.out) | (go_simp; trace_state; fail)) hS0 ?_
                simp only [Act.put, List.setIfInBounds_toArray, List.set_cons_zero, List.set_cons_succ]
                refine take_at 13 (some 77) (.int .u8 (u.toNat : Int)) rfl rfl (by kernel_rfl) (by kernel_rfl) (by kernel_rfl) (fun _ _ _ h => h) (by rfl) (fun W hSw => by obtain ⟨q0, q1⟩ := hSw; first | (go_simp; done) | (go_simp; exact HMW.out) | (go_simp; trace_state; fail)) hS0 ?_
                simp only [Act.put, List.setIfInBounds_toArray, List.set_cons_zero, List.set_cons_succ]
                refine wpAnyH_ready (rs := [14]) (by kernel_rfl) (by simp) ?_
                refine AllReadyH.cons rfl (fun K hK => ?_) AllReadyH.nil
                go_simp
                have p1 : (wr.alloc (.cells #[.int .u8 (u.toNat : Int)] 5)).drew.heap[wr.heap.size]? = some (.cells #[.int .u8 (u.toNat : Int)] 5) := heap_newB wr (.cells #[.int .u8 (u.toNat : Int)] 5)
                have hbD : Below wr.heap.size wr (wr.alloc (.cells #[.int .u8 (u.toNat : Int)] 5)).drew := (bal (Below.refl _ _) (.cells #[.int .u8 (u.toNat : Int)] 5)).drew
                have hS1 := HS.out _ hbD
                have HBF : Hid (Below w6.heap.size w6 (wr.alloc (.cells #[.int .u8 (u.toNat : Int)] 5)).drew) := Below.chain hst.out hbD
                generalize wr.heap.size = sB at *
                generalize (wr.alloc (.cells #[.int .u8 (u.toNat : Int)] 5)).drew = y1 at *
                refine hK.out _ _ hS1 (fun _ => ?_)
                clear hK K
                refine wpAnyH_ready (rs := [15]) (by kernel_rfl) (by simp) ?_
                refine AllReadyH.cons rfl (fun K hK => ?_) AllReadyH.nil
                have hcv := conv_one _ sB u (by assumption)
                go_simp
                refine hK.out _ _ hS1 (fun _ => ?_)
                clear hK K
                refine take_at 16 (some 80) (.bool false) rfl rfl (by kernel_rfl) (by kernel_rfl) (by kernel_rfl) (fun _ _ _ h => h) (by rfl) (fun W hSw => by obtain ⟨q0, q1⟩ := hSw; first | (go_simp; done) | (go_simp; exact HMW.out) | (go_simp; trace_state; fail)) hS1 ?_
                simp only [Act.put, List.setIfInBounds_toArray, List.set_cons_zero, List.set_cons_succ]
                refine take_at 17 (some 81) (.bool false) rfl rfl (by kernel_rfl) (by kernel_rfl) (by kernel_rfl) (fun _ _ _ h => h) (by rfl) (fun W hSw => by obtain ⟨q0, q1⟩ := hSw; first | (go_simp; done) | (go_simp; exact HMW.out) | (go_simp; trace_state; fail)) hS1 ?_
                simp only [Act.put, List.setIfInBounds_toArray, List.set_cons_zero, List.set_cons_succ]
                refine wpAnyH_done (by kernel_rfl) ?_ _
                refine NoPanic.normal ?_
                go_wp2
                go_roundw
                case rel => exact ⟨i + 1, by omega, by go_num, by rw [HN1.out]; go_num, HBF.out⟩
                case measure => simp [intOf]; omega
              · have hdk : decide ((i : Int) = (k : Int)) = false := decide_eq_false (by omega)
                have hne : ¬ ((i : Int) = (k : Int)) := by omega
                have hbe : ((i : Int) == (k : Int)) = false := beq_false_of_ne hne
                have hbn : (!((i : Int) == (k : Int))) = true := by rw [hbe]; rfl
                have HN1 : Hid (tL mask k false (i + 1) = tL mask k false i) := tL_no (by unfold sel; rw [hz]; simp [hki])
                clear hcl
                have HST2 : Hid _ := hst
                go_wp2
                go_roundw
                case rel => exact ⟨i + 1, by omega, by go_num, by rw [HN1.out], HST2.out⟩
                case measure => simp [intOf]; omega
          · obtain rfl : i = 12 := by omega
            have hd : decide (((12 : Nat) : Int) < 12) = false := by decide
            have h7 := S2.later H6.out hst.out
            have hs0 := s2_sets h7 none 0 0 [] (by omega) ⟨rfl, fun h => by omega⟩ (fun m hm => by cases hm)
            clear hst
            rw [HNN.out]
            go_wp2_with fail
            refine hs0.mono ?_
            rintro e w7 ⟨u7, rfl, hq7, hb7⟩
            have h8 := h7.later hb7
            obtain ⟨ao7, cap7, rfl, -⟩ := hq7.slice
            rw [ma_all]
            clear hq7 hs0 h7
            go_wp2_with fail
            refine (s2_len h8).mono ?_
            rintro e w8 ⟨rfl, hb8⟩
            have hbf := (h8.later hb8).b
            clear h8
            go_wp2
            all_goals
              go_ret
              exact ⟨rfl, hbf⟩
      | true =>
        go_wp2_with (first | (refine wp_bs rfl _ rfl wr.heap.size (mu k) rfl hp ?_) | fail)
        have hms := mat_one ((wr.alloc (.cells #[.int .u8 (97 + (k : Int))] 5)).alloc (.cells #[Lb.tx [118], .int .i64 2, Lb.tx [mu k]] 65)) (mM k true)
        have es : ((wr.alloc (.cells #[.int .u8 (97 + (k : Int))] 5)).alloc (.cells #[Lb.tx [118], .int .i64 2, Lb.tx [mu k]] 65)).heap.size = wr.heap.size + 1 + 1 := by simp
        rw [es] at hms
        clear es
        have h5 : S2 w _ sb 0 (mL mask 12) (.slice none 0 0) [] := hst.out.later (bal (bal (bal (Below.refl _ _) (.cells #[.int .u8 (97 + (k : Int))] 5)) (.cells #[Lb.tx [118], .int .i64 2, Lb.tx [mu k]] 65)) (.cells #[Lb.tx [118], .int .i64 2, Lb.tx [mu k]] 65))
        have hsl := s2_sets h5 _ 1 1 [mM k true] (by omega) hms (mM_fit k true)
        rw [ma_sets mask k true hk12] at hsl
        refine hsl.mono ?_
        rintro e w6 ⟨u6, rfl, hq6, hb6⟩
        have h6 := h5.later hb6
        clear hsl hms h5 hp hst
        obtain ⟨ao, cap, rfl, hcells⟩ := hq6.slice
        obtain ⟨NN, hNN⟩ : ∃ n : Nat, (tL mask k true 12).length = n := ⟨_, rfl⟩
        have hNb : NN ≤ 12 := hNN ▸ tL_len mask k 12 true
        have HCL : Hid (∀ wr, Below w6.heap.size w6 wr → ∀ i, i < 12 → sel mask k true i = true → (tL mask k true i).length < NN ∧ ∃ g xb xo xc, ao = some ⟨g, 0, none⟩ ∧ wr.cell? ⟨g, (tL mask k true i).length, none⟩ = some (.slice (some ⟨xb, xo, none⟩) 2 xc) ∧ wr.cell? ⟨xb, xo + 3, none⟩ = some (Lb.tx [mu i])) := fun wr hwr i hi hs => by
          obtain ⟨t1, t2⟩ := tL_at hi hs
          obtain ⟨g, u, e1, e2, e3⟩ := hcells _ t1
          rw [t2] at e3
          obtain ⟨xb, xo, xc, rfl, e4⟩ := pq_two e3
          exact ⟨hNN ▸ t1, g, xb, xo, xc, e1, (hwr.cell (p := ⟨g, _, none⟩) (World.block_lt_of_cell? _ _ e2)).trans e2, (hwr.cell (p := ⟨xb, xo + 3, none⟩) (World.block_lt_of_cell? _ _ e4)).trans e4⟩
        rw [hNN]
        have HNN : Hid _ := hNN
        have H6 : Hid _ := h6
        clear hq6 hcells hNN h6
        go_wp2
        go_loopw [12, 13] (fun n v wr => ∃ i : Nat, i ≤ 12 ∧ v = .int .u8 i ∧ n = .int .i64 (tL mask k true i).length ∧ Hid (Below w6.heap.size w6 wr)) (fun _ v _ => 12 - (intOf v).toNat)
        case atStart => exact ⟨0, by omega, rfl, rfl, Below.refl _ _⟩
        case round =>
          obtain ⟨i, hik, rfl, rfl, hst⟩ := hrel
          by_cases hlt : i < 12
          · have hd : decide ((i : Int) < 12) = true := decide_eq_true (by omega)
            have hbit := bit_at mask i hmask hlt
            have hnl := tL_len mask k i true
            have hcl := HCL.out _ hst.out i hlt
            cases hz : mask.testBit i with
            | false =>
              have HN1 : Hid (tL mask k true (i + 1) = tL mask k true i) := tL_no (by unfold sel; rw [hz]; rfl)
              rw [hz] at hbit
              have hbit : bits BinOp.and IntKind.u16 ((mask : Int) / 2 ^ i) 1 = 0 := hbit
              clear hcl
              have HST2 : Hid _ := hst
              go_wp2
              go_roundw
              case rel => exact ⟨i + 1, by omega, by go_num, by rw [HN1.out], HST2.out⟩
              case measure => simp [intOf]; omega
            | true =>
              rw [hz] at hbit
              have hbit : bits BinOp.and IntKind.u16 ((mask : Int) / 2 ^ i) 1 = 1 := hbit
              by_cases hki : i = k
              · subst hki
                have HN1 : Hid (tL mask i true (i + 1) = tL mask i true i) := tL_no (by unfold sel; rw [hz]; simp)
                clear hcl
                have HST2 : Hid _ := hst
                go_wp2
                go_roundw
                case rel => exact ⟨i + 1, by omega, by go_num, by rw [HN1.out], HST2.out⟩
                case measure => simp [intOf]; omega
              · have hdk : decide ((i : Int) = (k : Int)) = false := decide_eq_false (by omega)
                have hne : ¬ ((i : Int) = (k : Int)) := by omega
                have hbe : ((i : Int) == (k : Int)) = false := beq_false_of_ne hne
                have hbn : (!((i : Int) == (k : Int))) = true := by rw [hbe]; rfl
                have hse : sel mask k true i = true := by unfold sel; rw [hz]; simp [hki]
                have hln := tL_yes hse
                obtain ⟨hnN, g, xb, xo, xc, rfl, c1, c2⟩ := hcl hse
                obtain ⟨nn, hnn⟩ : ∃ n : Nat, (tL mask k true i).length = n := ⟨_, rfl⟩
                have HN1 : Hid ((tL mask k true (i + 1)).length = nn + 1) := by show _ = _; rw [hln, List.length_append, hnn]; rfl
                have HMW : Hid (IntKind.u8.wrap (97 + (i : Int)) = ((mu i).toNat : Int)) := by show _ = _; rw [ma3 i hlt]; simp [IntKind.wrap, IntKind.bits, IntKind.signed]; omega
                rw [hnn] at hnN hnl c1 ⊢
                generalize mu i = u at *
                clear hln hse hnn hcl
                have hdn : decide ((NN : Int) ≤ (nn : Int)) = false := decide_eq_false (by omega)
                go_wp2_with fail
                have HS : Hid (∀ W, Below wr.heap.size wr W → (fun W : World => W.cell? ⟨g, nn, none⟩ = some (.slice (some ⟨xb, xo, none⟩) 2 xc) ∧ W.cell? ⟨xb, xo + 3, none⟩ = some (Lb.tx [u])) W) := fun W hW => ⟨(hW.cell (p := ⟨g, nn, none⟩) (World.block_lt_of_cell? _ _ c1)).trans c1, (hW.cell (p := ⟨xb, xo + 3, none⟩) (World.block_lt_of_cell? _ _ c2)).trans c2⟩
                clear c1 c2
                have hbd := (Below.refl wr.heap.size wr).drew
                have hS0 : (fun W : World => W.cell? ⟨g, nn, none⟩ = some (.slice (some ⟨xb, xo, none⟩) 2 xc) ∧ W.cell? ⟨xb, xo + 3, none⟩ = some (Lb.tx [u])) _ := HS.out _ hbd
                refine wp_region_noPanic ?_
                refine wp_region_held_drew (S := (fun W : World => W.cell? ⟨g, nn, none⟩ = some (.slice (some ⟨xb, xo, none⟩) 2 xc) ∧ W.cell? ⟨xb, xo + 3, none⟩ = some (Lb.tx [u]))) (by kernel_rfl) hS0 (fun _ => ?_)
                refine take_at 0 (some 64) (.int .i64 nn) rfl rfl (by kernel_rfl) (by kernel_rfl) (by kernel_rfl) (fun _ _ _ h => h) (by rfl) (fun W hSw => by obtain ⟨q0, q1⟩ := hSw; first | (go_simp; done) | (go_simp; exact HMW.out) | (go_simp; trace_state; fail)) hS0 ?_
                simp only [Act.put, List.setIfInBounds_toArray, List.set_cons_zero, List.set_cons_succ]
                refine take_at 1 (some 65) (.slice (some ⟨g, 0, none⟩) NN cap) rfl rfl (by kernel_rfl) (by kernel_rfl) (by kernel_rfl) (fun _ _ _ h => h) (by rfl) (fun W hSw => by obtain ⟨q0, q1⟩ := hSw; first | (go_simp; done) | (go_simp; exact HMW.out) | (go_simp; trace_state; fail)) hS0 ?_
                simp only [Act.put, List.setIfInBounds_toArray, List.set_cons_zero, List.set_cons_succ]
                refine take_at 2 (some 66) (.int .i64 NN) rfl rfl (by kernel_rfl) (by kernel_rfl) (by kernel_rfl) (fun _ _ _ h => h) (by rfl) (fun W hSw => by obtain ⟨q0, q1⟩ := hSw; first | (go_simp; done) | (go_simp; exact HMW.out) | (go_simp; trace_state; fail)) hS0 ?_
                simp only [Act.put, List.setIfInBounds_toArray, List.set_cons_zero, List.set_cons_succ]
                refine take_at 3 (some 67) (.bool false) rfl rfl (by kernel_rfl) (by kernel_rfl) (by kernel_rfl) (fun _ _ _ h => h) (by rfl) (fun W hSw => by obtain ⟨q0, q1⟩ := hSw; first | (go_simp; done) | (go_simp; exact HMW.out) | (go_simp; trace_state; fail)) hS0 ?_
                simp only [Act.put, List.setIfInBounds_toArray, List.set_cons_zero, List.set_cons_succ]
                refine take_at 4 (some 68) (.bool false) rfl rfl (by kernel_rfl) (by kernel_rfl) (by kernel_rfl) (fun _ _ _ h => h) (by rfl) (fun W hSw => by obtain ⟨q0, q1⟩ := hSw; first | (go_simp; done) | (go_simp; exact HMW.out) | (go_simp; trace_state; fail)) hS0 ?_
                simp only [Act.put, List.setIfInBounds_toArray, List.set_cons_zero, List.set_cons_succ]
                refine take_at 5 (some 69) (.slice (some ⟨g, 0, none⟩) NN cap) rfl rfl (by kernel_rfl) (by kernel_rfl) (by kernel_rfl) (fun _ _ _ h => h) (by rfl) (fun W hSw => by obtain ⟨q0, q1⟩ := hSw; first | (go_simp; done) | (go_simp; exact HMW.out) | (go_simp; trace_state; fail)) hS0 ?_
                simp only [Act.put, List.setIfInBounds_toArray, List.set_cons_zero, List.set_cons_succ]
                refine take_at 6 (some 70) (.int .i64 nn) rfl rfl (by kernel_rfl) (by kernel_rfl) (by kernel_rfl) (fun _ _ _ h => h) (by rfl) (fun W hSw => by obtain ⟨q0, q1⟩ := hSw; first | (go_simp; done) | (go_simp; exact HMW.out) | (go_simp; trace_state; fail)) hS0 ?_
                simp only [Act.put, List.setIfInBounds_toArray, List.set_cons_zero, List.set_cons_succ]
                refine take_at 7 (some 71) (.pointer (some ⟨g, nn, none⟩)) rfl rfl (by kernel_rfl) (by kernel_rfl) (by kernel_rfl) (fun _ _ _ h => h) (by rfl) (fun W hSw => by obtain ⟨q0, q1⟩ := hSw; first | (go_simp; done) | (go_simp; exact HMW.out) | (go_simp; trace_state; fail)) hS0 ?_
                simp only [Act.put, List.setIfInBounds_toArray, List.set_cons_zero, List.set_cons_succ]
                refine take_at 8 (some 72) (.slice (some ⟨xb, xo, none⟩) 2 xc) rfl rfl (by kernel_rfl) (by kernel_rfl) (by kernel_rfl) (fun _ _ _ h => h) (by rfl) (fun W hSw => by obtain ⟨q0, q1⟩ := hSw; first | (go_simp; done) | (go_simp; exact HMW.out) | (go_simp; trace_state; fail)) hS0 ?_
                simp only [Act.put, List.setIfInBounds_toArray, List.set_cons_zero, List.set_cons_succ]
                refine take_at 9 (some 73) (.pointer (some ⟨xb, xo + 2, none⟩)) rfl rfl (by kernel_rfl) (by kernel_rfl) (by kernel_rfl) (fun _ _ _ h => h) (by rfl) (fun W hSw => by obtain ⟨q0, q1⟩ := hSw; first | (go_simp; done) | (go_simp; exact HMW.out) | (go_simp; trace_state; fail)) hS0 ?_
                simp only [Act.put, List.setIfInBounds_toArray, List.set_cons_zero, List.set_cons_succ]
                refine take_at 10 (some 74) (.pointer (some ⟨xb, xo + 3, none⟩)) rfl rfl (by kernel_rfl) (by kernel_rfl) (by kernel_rfl) (fun _ _ _ h => h) (by rfl) (fun W hSw => by obtain ⟨q0, q1⟩ := hSw; first | (go_simp; done) | (go_simp; exact HMW.out) | (go_simp; trace_state; fail)) hS0 ?_
                simp only [Act.put, List.setIfInBounds_toArray, List.set_cons_zero, List.set_cons_succ]
                refine take_at 11 (some 75) (Lb.tx [u]) rfl rfl (by kernel_rfl) (by kernel_rfl) (by kernel_rfl) (fun _ _ _ h => h) (by rfl) (fun W hSw => by obtain ⟨q0, q1⟩ := hSw; first | (go_simp; done) | (go_simp; exact HMW.out) | (go_simp; trace_state; fail)) hS0 ?_
                simp only [Act.put, List.setIfInBounds_toArray, List.set_cons_zero, List.set_cons_succ]
                refine take_at 12 (some 76) (.int .u8 i) rfl rfl (by kernel_rfl) (by kernel_rfl) (by kernel_rfl) (fun _ _ _ h => h) (by rfl) (fun W hSw => by obtain ⟨q0, q1⟩ := hSw; first | (go_simp; done) | (go_simp; exact HMW.out) | (go_simp; trace_state; fail)) hS0 ?_
                simp only [Act.put, List.setIfInBounds_toArray, List.set_cons_zero, List.set_cons_succ]
                refine take_at 13 (some 77) (.int .u8 (u.toNat : Int)) rfl rfl (by kernel_rfl) (by kernel_rfl) (by kernel_rfl) (fun _ _ _ h => h) (by rfl) (fun W hSw => by obtain ⟨q0, q1⟩ := hSw; first | (go_simp; done) | (go_simp; exact HMW.out) | (go_simp; trace_state; fail)) hS0 ?_
                simp only [Act.put, List.setIfInBounds_toArray, List.set_cons_zero, List.set_cons_succ]
                refine wpAnyH_ready (rs := [14]) (by kernel_rfl) (by simp) ?_
                refine AllReadyH.cons rfl (fun K hK => ?_) AllReadyH.nil
                go_simp
                have p1 : (wr.alloc (.cells #[.int .u8 (u.toNat : Int)] 5)).drew.heap[wr.heap.size]? = some (.cells #[.int .u8 (u.toNat : Int)] 5) := heap_newB wr (.cells #[.int .u8 (u.toNat : Int)] 5)
                have hbD : Below wr.heap.size wr (wr.alloc (.cells #[.int .u8 (u.toNat : Int)] 5)).drew := (bal (Below.refl _ _) (.cells #[.int .u8 (u.toNat : Int)] 5)).drew
                have hS1 := HS.out _ hbD
                have HBF : Hid (Below w6.heap.size w6 (wr.alloc (.cells #[.int .u8 (u.toNat : Int)] 5)).drew) := Below.chain hst.out hbD
                generalize wr.heap.size = sB at *
                generalize (wr.alloc (.cells #[.int .u8 (u.toNat : Int)] 5)).drew = y1 at *
                refine hK.out _ _ hS1 (fun _ => ?_)
                clear hK K
                refine wpAnyH_ready (rs := [15]) (by kernel_rfl) (by simp) ?_
                refine AllReadyH.cons rfl (fun K hK => ?_) AllReadyH.nil
                have hcv := conv_one _ sB u (by assumption)
                go_simp
                refine hK.out _ _ hS1 (fun _ => ?_)
                clear hK K
                refine take_at 16 (some 80) (.bool false) rfl rfl (by kernel_rfl) (by kernel_rfl) (by kernel_rfl) (fun _ _ _ h => h) (by rfl) (fun W hSw => by obtain ⟨q0, q1⟩ := hSw; first | (go_simp; done) | (go_simp; exact HMW.out) | (go_simp; trace_state; fail)) hS1 ?_
                simp only [Act.put, List.setIfInBounds_toArray, List.set_cons_zero, List.set_cons_succ]
                refine take_at 17 (some 81) (.bool false) rfl rfl (by kernel_rfl) (by kernel_rfl) (by kernel_rfl) (fun _ _ _ h => h) (by rfl) (fun W hSw => by obtain ⟨q0, q1⟩ := hSw; first | (go_simp; done) | (go_simp; exact HMW.out) | (go_simp; trace_state; fail)) hS1 ?_
                simp only [Act.put, List.setIfInBounds_toArray, List.set_cons_zero, List.set_cons_succ]
                refine wpAnyH_done (by kernel_rfl) ?_ _
                refine NoPanic.normal ?_
                go_wp2
                go_roundw
                case rel => exact ⟨i + 1, by omega, by go_num, by rw [HN1.out]; go_num, HBF.out⟩
                case measure => simp [intOf]; omega
          · obtain rfl : i = 12 := by omega
            have hd : decide (((12 : Nat) : Int) < 12) = false := by decide
            have h7 := S2.later H6.out hst.out
            have hs0 := s2_sets h7 none 0 0 [] (by omega) ⟨rfl, fun h => by omega⟩ (fun m hm => by cases hm)
            clear hst
            rw [HNN.out]
            go_wp2_with fail
            refine hs0.mono ?_
            rintro e w7 ⟨u7, rfl, hq7, hb7⟩
            have h8 := h7.later hb7
            obtain ⟨ao7, cap7, rfl, -⟩ := hq7.slice
            rw [ma_all]
            clear hq7 hs0 h7
            go_wp2_with fail
            refine (s2_len h8).mono ?_
            rintro e w8 ⟨rfl, hb8⟩
            have hbf := (h8.later hb8).b
            clear h8
            go_wp2
            all_goals
              go_ret
              exact ⟨rfl, hbf⟩
end Go.Proofs.YtjgckfcocmhnhaaGreatDoor.Sr
