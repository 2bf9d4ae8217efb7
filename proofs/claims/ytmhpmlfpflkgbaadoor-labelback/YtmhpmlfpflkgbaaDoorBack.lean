/- LabelBack: the walk. -/
import Derived.Test.YtmhpmlfpflkgbaaDoorKnown
namespace Go.Proofs.YtmhpmlfpflkgbaaDoor
open Go.RowKit

theorem print_len {l : List Pr} : (fPrint l).length ≤ 1000 := by
  unfold fPrint
  split
  · rename_i h
    have h1 := others_is h
    have h2 := metric_len l
    have h3 := inner_le (others l) h1.2
    split
    · omega
    · simp; omega
  · simp
theorem same_drew {w : World} {e : Ending} {r : Bool} {w' : World} (h : e = .returned (.bool r) ∧ ∃ k, w' = w.drewN k) : e = .returned (.bool r) ∧ Below w.heap.size w w' := by
  obtain ⟨h1, k, rfl⟩ := h
  exact ⟨h1, below_drewN (Below.refl _ _) k⟩
theorem same_b (xa : Option Addr) (n c : Nat) (a : List Pr) (ya : Option Addr) (m d : Nat) (b : List Pr) (w : World) (hn : n ≤ 9223372036854775807) (hm : m ≤ 9223372036854775807) (hx : Ps w xa n a) (hy : Ps w ya m b) :
    Calls Tryd.prog 11 #[.slice xa n c, .slice ya m d] w fun e w' => e = .returned (.bool (sameB a b)) ∧ Below w.heap.size w w' := (same_any xa n c a ya m d b w hn hm hx hy).mono fun _ _ h => same_drew h

set_option maxRecDepth 20000 in
set_option maxHeartbeats 1000000 in
theorem back_core (xa : Option Addr) (n c : Nat) (a : List Pr) (ya : Option Addr) (m d : Nat) (b : List Pr) (w : World) (hn : n ≤ 1000000) (hm : m ≤ 1000000) (hfa : Fit a) (hfb : Fit b) (hx : Ps w xa n a) (hy : Ps w ya m b) (hM : Mx w)
    (ba : bigB a = false) (bb : bigB b = false) (ia : fIs a = true) (ib : fIs b = true) (s : Bool) (r : Int) (hr : r = -1 ∨ r = 0 ∨ r = 1) (h1 : sameB a b = s) (h2 : (fPrint a == fPrint b) = s) (h3 : fCmp a b = r) (h4 : fCmp b a = -r) (h5 : decide (r = 0) = s) :
    Calls Tryd.prog 4 #[.slice xa n c, .slice ya m d] w fun e w' => e = .returned (.bool true) ∧ Below w.heap.size w w' := by
  have hn' : n ≤ 9223372036854775807 := Nat.le_trans hn (by decide)
  have hm' : m ≤ 9223372036854775807 := Nat.le_trans hm (by decide)
  have hpp := parse_print ia
  have hga := fun (W : World) (hW : Below w.heap.size w W) => big_any xa n c a W hn' hfa (hx.later hW)
  have hgb := fun (W : World) (hW : Below w.heap.size w W) => big_any ya m d b W hm' hfb (hy.later hW)
  have hia := fun (W : World) (hW : Below w.heap.size w W) => is_any xa n c a W hn' hfa (hx.later hW)
  have hib := fun (W : World) (hW : Below w.heap.size w W) => is_any ya m d b W hm' hfb (hy.later hW)
  have hpa := fun (W : World) (hW : Below w.heap.size w W) => print_any xa n c a W hn hfa (hM.later hW) (hx.later hW)
  have hpb := fun (W : World) (hW : Below w.heap.size w W) => print_any ya m d b W hm hfb (hM.later hW) (hy.later hW)
  have hps := fun (W : World) (hW : Below w.heap.size w W) => parse_any (fPrint a) W (Nat.le_trans print_len (by decide)) (hM.later hW)
  rw [hpp.2.1, hpp.2.2] at hps
  have hsx := fun (W : World) (hW : Below w.heap.size w W) (za : Option Addr) (k : Nat) (hz : Ps W za n a) => same_b za n k a xa n c a W hn' hn' hz (hx.later hW)
  have hst : sameB a a = true := by unfold sameB; simp
  rw [hst] at hsx
  have hsab := fun (W : World) (hW : Below w.heap.size w W) => same_b xa n c a ya m d b W hn' hm' (hx.later hW) (hy.later hW)
  have hcab := fun (W : World) (hW : Below w.heap.size w W) => cmp_any xa n c a ya m d b W hn' hm' (hx.later hW) (hy.later hW)
  have hcba := fun (W : World) (hW : Below w.heap.size w W) => cmp_any ya m d b xa n c a W hm' hn' (hy.later hW) (hx.later hW)
  rw [ba] at hga
  rw [bb] at hgb
  rw [ia] at hia
  rw [ib] at hib
  rw [h1] at hsab
  rw [h3] at hcab
  rw [h4] at hcba
  have HLA : Hid (a.length = n) := hx.1
  clear hpp hst h1 h3 h4 ba bb ia ib
  have hknown := known_any w hM
  generalize fPrint a = ta at *
  generalize fPrint b = tb at *
  go_enter Tryd.func4, Tryd.ntmps4
  go_wp2_with fail
  refine hknown.mono ?_
  rintro e w1 ⟨rfl, hb1⟩
  go_wp2_with fail
  refine (hga _ hb1).mono ?_
  rintro e w' ⟨rfl, rfl⟩
  go_wp2_with fail
  refine (hgb _ hb1).mono ?_
  rintro e w' ⟨rfl, rfl⟩
  go_wp2_with fail
  refine (hia _ hb1).mono ?_
  rintro e w2 ⟨rfl, hb2⟩
  have B2 := Below.chain hb1 hb2
  go_wp2_with fail
  refine (hib _ B2).mono ?_
  rintro e w3 ⟨rfl, hb3⟩
  have B3 := Below.chain B2 hb3
  go_wp2_with fail
  refine (hpa _ B3).mono ?_
  rintro e w4 ⟨rfl, hb4⟩
  have B4 := Below.chain B3 hb4
  go_wp2_with fail
  refine (hps _ B4).mono ?_
  rintro e w5 ⟨v5, rfl, ho5, hb5⟩
  have B5 := Below.chain B4 hb5
  obtain ⟨a5, c5, rfl, hz5⟩ := ho5.fitN
  rw [HLA.out] at hz5
  rw [HLA.out]
  clear hb1 hb2 hb3 hb4 hb5 B2 B3 B4 ho5
  go_wp2_with fail
  refine (hsx _ B5 a5 c5 hz5).mono ?_
  rintro e w6 ⟨rfl, hb6⟩
  have B6 := Below.chain B5 hb6
  go_wp2_with fail
  refine (hpa _ B6).mono ?_
  rintro e w7 ⟨rfl, hb7⟩
  have B7 := Below.chain B6 hb7
  go_wp2_with fail
  refine (hpb _ B7).mono ?_
  rintro e w8 ⟨rfl, hb8⟩
  have B8 := Below.chain B7 hb8
  go_wp2_with fail
  refine (hsab _ B8).mono ?_
  rintro e w9 ⟨rfl, hb9⟩
  have B9 := Below.chain B8 hb9
  clear hb6 hb7 hb8 hb9 B5 B6 B7 B8
  rcases hr with rfl | rfl | rfl
  all_goals
    obtain rfl := h5
    go_wp2_with fail
    refine (hcab _ B9).mono ?_
    rintro e w10 ⟨rfl, hb10⟩
    have B10 := Below.chain B9 hb10
    go_wp2_with fail
    refine (hsab _ B10).mono ?_
    rintro e w11 ⟨rfl, hb11⟩
    have B11 := Below.chain B10 hb11
    go_wp2_with fail
    refine (hcab _ B11).mono ?_
    rintro e w12 ⟨rfl, hb12⟩
    have B12 := Below.chain B11 hb12
    go_wp2_with fail
    refine (hcba _ B12).mono ?_
    rintro e w13 ⟨rfl, hb13⟩
    go_wp2
    go_ret
    exact ⟨rfl, Below.chain B12 hb13⟩
set_option maxRecDepth 20000 in
set_option maxHeartbeats 2000000 in
theorem back_walk (xa : Option Addr) (n c : Nat) (a : List Pr) (ya : Option Addr) (m d : Nat) (b : List Pr) (w : World) (hn : n ≤ 9223372036854775807) (hm : m ≤ 9223372036854775807) (hfa : Fit a) (hfb : Fit b) (hx : Ps w xa n a) (hy : Ps w ya m b) (hM : Mx w) :
    Calls Tryd.prog 4 #[.slice xa n c, .slice ya m d] w fun e w' => e = .returned (.bool true) ∧ Below w.heap.size w w' := by
  have hknown := known_any w hM
  have hga := fun (W : World) (hW : Below w.heap.size w W) => big_any xa n c a W hn hfa (hx.later hW)
  have hgb := fun (W : World) (hW : Below w.heap.size w W) => big_any ya m d b W hm hfb (hy.later hW)
  have hia := fun (W : World) (hW : Below w.heap.size w W) => is_any xa n c a W hn hfa (hx.later hW)
  have hib := fun (W : World) (hW : Below w.heap.size w W) => is_any ya m d b W hm hfb (hy.later hW)
  cases ba : bigB a with
  | true =>
    rw [ba] at hga
    clear ba hgb hia hib
    go_enter Tryd.func4, Tryd.ntmps4
    go_wp2_with fail
    refine hknown.mono ?_
    rintro e w1 ⟨rfl, hb1⟩
    go_wp2_with fail
    refine (hga _ hb1).mono ?_
    rintro e w' ⟨rfl, rfl⟩
    go_wp2
    go_ret
    exact ⟨rfl, hb1⟩
  | false =>
    have hn20 := (big_not ba).1
    rw [hx.1] at hn20
    rw [ba] at hga
    cases bb : bigB b with
    | true =>
      rw [bb] at hgb
      clear ba bb hia hib
      go_enter Tryd.func4, Tryd.ntmps4
      go_wp2_with fail
      refine hknown.mono ?_
      rintro e w1 ⟨rfl, hb1⟩
      go_wp2_with fail
      refine (hga _ hb1).mono ?_
      rintro e w' ⟨rfl, rfl⟩
      go_wp2_with fail
      refine (hgb _ hb1).mono ?_
      rintro e w' ⟨rfl, rfl⟩
      go_wp2
      go_ret
      exact ⟨rfl, hb1⟩
    | false =>
      have hm20 := (big_not bb).1
      rw [hy.1] at hm20
      rw [bb] at hgb
      cases ia : fIs a with
      | false =>
        rw [ia] at hia
        clear ba bb ia hib
        go_enter Tryd.func4, Tryd.ntmps4
        go_wp2_with fail
        refine hknown.mono ?_
        rintro e w1 ⟨rfl, hb1⟩
        go_wp2_with fail
        refine (hga _ hb1).mono ?_
        rintro e w' ⟨rfl, rfl⟩
        go_wp2_with fail
        refine (hgb _ hb1).mono ?_
        rintro e w' ⟨rfl, rfl⟩
        go_wp2_with fail
        refine (hia _ hb1).mono ?_
        rintro e w2 ⟨rfl, hb2⟩
        go_wp2
        go_ret
        exact ⟨rfl, Below.chain hb1 hb2⟩
      | true =>
        cases ib : fIs b with
        | false =>
          rw [ia] at hia
          rw [ib] at hib
          clear ba bb ia ib
          go_enter Tryd.func4, Tryd.ntmps4
          go_wp2_with fail
          refine hknown.mono ?_
          rintro e w1 ⟨rfl, hb1⟩
          go_wp2_with fail
          refine (hga _ hb1).mono ?_
          rintro e w' ⟨rfl, rfl⟩
          go_wp2_with fail
          refine (hgb _ hb1).mono ?_
          rintro e w' ⟨rfl, rfl⟩
          go_wp2_with fail
          refine (hia _ hb1).mono ?_
          rintro e w2 ⟨rfl, hb2⟩
          have B2 := Below.chain hb1 hb2
          go_wp2_with fail
          refine (hib _ B2).mono ?_
          rintro e w3 ⟨rfl, hb3⟩
          go_wp2
          go_ret
          exact ⟨rfl, Below.chain B2 hb3⟩
        | true =>
          have hz := fCmp_zero a b
          by_cases hab : a = b
          · refine back_core xa n c a ya m d b w (by omega) (by omega) hfa hfb hx hy hM ba bb ia ib true 0 (by simp) (decide_eq_true hab) (by simp [hab]) (hz.2 hab) ?_ rfl
            rw [fCmp_neg, hz.2 hab]
          · refine back_core xa n c a ya m d b w (by omega) (by omega) hfa hfb hx hy hM ba bb ia ib false (fCmp a b) (fCmp_cases a b) (decide_eq_false hab) ?_ rfl (fCmp_neg b a) ?_
            · rw [beq_eq_false_iff_ne]
              exact fun e => hab (print_inj ia ib e)
            · exact decide_eq_false fun e => hab (hz.1 e)
end Go.Proofs.YtmhpmlfpflkgbaaDoor
