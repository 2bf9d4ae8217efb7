/- LabelCmp: the walk. -/
import Derived.Test.YtmhpmlfpflkgbabDoorSlice
namespace Go.Proofs.YtmhpmlfpflkgbabDoor
open Go.RowKit

set_option maxRecDepth 20000 in
set_option maxHeartbeats 2000000 in
theorem cmps_core (xa : Option Addr) (n c : Nat) (a : List Pr) (ya : Option Addr) (m d : Nat) (b : List Pr) (za : Option Addr) (p g : Nat) (q : List Pr) (cut : Nat) (w : World) (hn : n ≤ 20) (hm : m ≤ 9223372036854775807) (hp : p ≤ 9223372036854775807) (hcut : cut ≤ 255) (hfa : Fit a) (hfb : Fit b) (hfq : Fit q) (hx : Ps w xa n a) (hy : Ps w ya m b) (hz : Ps w za p q) (hM : Mx w) (hcap : n ≤ c)
    (ba : bigB a = false) (bb : bigB b = false) (bq : bigB q = false) (k : Nat) (hk : k ≤ n) (hkk : (cut : Int) % ((n : Int) + 1) = (k : Int)) (want : Int) (hw : want = if k < n then -1 else 0) (r1 r3 r4 : Int) (h1 : fCmp a b = r1) (h2 : fCmp b a = -r1) (h3 : fCmp b q = r3) (h4 : fCmp a q = r4)
    (hr : (r1 = 1) ∨ ((r1 = -1 ∨ r1 = 0) ∧ 0 < r3) ∨ ((r1 = -1 ∨ r1 = 0) ∧ r3 ≤ 0 ∧ r4 ≤ 0)) :
    Calls Tryd.prog 4 #[.slice xa n c, .slice ya m d, .slice za p g, .int .u8 cut] w fun e w' => e = .returned (.bool true) ∧ Below w.heap.size w w' := by
  have hn' : n ≤ 9223372036854775807 := Nat.le_trans hn (by decide)
  have hknown := known_any w hM
  have hga := fun (W : World) (hW : Below w.heap.size w W) => big_any xa n c a W hn' hfa (hx.later hW)
  have hgb := fun (W : World) (hW : Below w.heap.size w W) => big_any ya m d b W hm hfb (hy.later hW)
  have hgq := fun (W : World) (hW : Below w.heap.size w W) => big_any za p g q W hp hfq (hz.later hW)
  rw [ba] at hga
  rw [bb] at hgb
  rw [bq] at hgq
  have haa := fun (W : World) (hW : Below w.heap.size w W) => cmp_any xa n c a xa n c a W hn' hn' (hx.later hW) (hx.later hW)
  have hab := fun (W : World) (hW : Below w.heap.size w W) => cmp_any xa n c a ya m d b W hn' hm (hx.later hW) (hy.later hW)
  have hba := fun (W : World) (hW : Below w.heap.size w W) => cmp_any ya m d b xa n c a W hm hn' (hy.later hW) (hx.later hW)
  have hbq := fun (W : World) (hW : Below w.heap.size w W) => cmp_any ya m d b za p g q W hm hp (hy.later hW) (hz.later hW)
  have haq := fun (W : World) (hW : Below w.heap.size w W) => cmp_any xa n c a za p g q W hn' hp (hx.later hW) (hz.later hW)
  have hka := fun (W : World) (hW : Below w.heap.size w W) => cmp_any (cutA xa c 0) k c (a.take k) xa n c a W (Nat.le_trans hk hn') hn' ((hx.head hcap k hk).later hW) (hx.later hW)
  rw [(fCmp_zero a a).2 rfl] at haa
  rw [h1] at hab
  rw [h2] at hba
  rw [h3] at hbq
  rw [h4] at haq
  rw [fCmp_take a k (by rw [hx.1]; exact hk), hx.1, ← hw] at hka
  have hsl := fun W => cut_front xa n c k (Nat.le_trans hk hcap) W
  clear h1 h2 h3 h4 ba bb bq hfa hfb hfq hx hy hz
  generalize cutA xa c 0 = xc at *
  have hcase : (k < n ∧ want = -1) ∨ (¬ k < n ∧ want = 0) := by
    by_cases h : k < n
    · exact Or.inl ⟨h, by rw [hw, if_pos h]⟩
    · exact Or.inr ⟨h, by rw [hw, if_neg h]⟩
  clear hw
  rcases hcase with ⟨hkn, rfl⟩ | ⟨hkn, rfl⟩
  all_goals
    go_enter Tryd.func4, Tryd.ntmps4
    go_wp2_with fail
    refine hknown.mono ?_
    rintro e w1 ⟨rfl, hb1⟩
    go_wp2_with fail
    refine (hga _ hb1).mono ?_
    rintro e w' ⟨rfl, rfl⟩
    go_wp2_with fail
    refine (hgb _ hb1).mono ?_
    rintro e w' ⟨rfl, rfl⟩
    go_wp2_with fail
    refine (hgq _ hb1).mono ?_
    rintro e w' ⟨rfl, rfl⟩
    go_wp2_with fail
    refine (haa _ hb1).mono ?_
    rintro e w2 ⟨rfl, hb2⟩
    have B2 := Below.chain hb1 hb2
    clear hb1 hb2 hga hgb hgq haa hknown
    rcases hr with rfl | ⟨hr1, hr3⟩ | ⟨hr1, hr3, hr4⟩
    · go_wp2_with fail
      refine (hab _ B2).mono ?_
      rintro e w3 ⟨rfl, hb3⟩
      have B3 := Below.chain B2 hb3
      go_wp2_with fail
      refine (hba _ B3).mono ?_
      rintro e w4 ⟨rfl, hb4⟩
      have B4 := Below.chain B3 hb4
      go_wp2_with fail
      refine (hab _ B4).mono ?_
      rintro e w5 ⟨rfl, hb5⟩
      have B5 := Below.chain B4 hb5
      go_wp2_with fail
      refine (hka _ B5).mono ?_
      rintro e w6 ⟨rfl, hb6⟩
      go_wp2
      go_ret
      exact ⟨rfl, Below.chain B5 hb6⟩
    · rcases hr1 with rfl | rfl
      all_goals
        go_wp2_with fail
        refine (hab _ B2).mono ?_
        rintro e w3 ⟨rfl, hb3⟩
        have B3 := Below.chain B2 hb3
        go_wp2_with fail
        refine (hba _ B3).mono ?_
        rintro e w4 ⟨rfl, hb4⟩
        have B4 := Below.chain B3 hb4
        go_wp2_with fail
        refine (hab _ B4).mono ?_
        rintro e w5 ⟨rfl, hb5⟩
        have B5 := Below.chain B4 hb5
        go_wp2_with fail
        refine (hbq _ B5).mono ?_
        rintro e w6 ⟨rfl, hb6⟩
        have B6 := Below.chain B5 hb6
        go_wp2_with fail
        refine (hka _ B6).mono ?_
        rintro e w7 ⟨rfl, hb7⟩
        go_wp2
        go_ret
        exact ⟨rfl, Below.chain B6 hb7⟩
    · have hr3' : ¬ 0 < r3 := by omega
      rcases hr1 with rfl | rfl
      all_goals
        go_wp2_with fail
        refine (hab _ B2).mono ?_
        rintro e w3 ⟨rfl, hb3⟩
        have B3 := Below.chain B2 hb3
        go_wp2_with fail
        refine (hba _ B3).mono ?_
        rintro e w4 ⟨rfl, hb4⟩
        have B4 := Below.chain B3 hb4
        go_wp2_with fail
        refine (hab _ B4).mono ?_
        rintro e w5 ⟨rfl, hb5⟩
        have B5 := Below.chain B4 hb5
        go_wp2_with fail
        refine (hbq _ B5).mono ?_
        rintro e w6 ⟨rfl, hb6⟩
        have B6 := Below.chain B5 hb6
        go_wp2_with fail
        refine (haq _ B6).mono ?_
        rintro e w7 ⟨rfl, hb7⟩
        have B7 := Below.chain B6 hb7
        go_wp2_with fail
        refine (hka _ B7).mono ?_
        rintro e w8 ⟨rfl, hb8⟩
        go_wp2
        go_ret
        exact ⟨rfl, Below.chain B7 hb8⟩

set_option maxHeartbeats 2000000 in
theorem cmps_walk (xa : Option Addr) (n c : Nat) (a : List Pr) (ya : Option Addr) (m d : Nat) (b : List Pr) (za : Option Addr) (p g : Nat) (q : List Pr) (cu : Int) (w : World) (hn : n ≤ 9223372036854775807) (hm : m ≤ 9223372036854775807) (hp : p ≤ 9223372036854775807) (hcu : 0 ≤ cu ∧ cu ≤ 255) (hfa : Fit a) (hfb : Fit b) (hfq : Fit q) (hx : Ps w xa n a) (hy : Ps w ya m b) (hz : Ps w za p q) (hcap : n ≤ c) (hM : Mx w) :
    Calls Tryd.prog 4 #[.slice xa n c, .slice ya m d, .slice za p g, .int .u8 cu] w fun e w' => e = .returned (.bool true) ∧ Below w.heap.size w w' := by
  obtain ⟨cut, rfl⟩ : ∃ k : Nat, cu = k := ⟨cu.toNat, by omega⟩
  have hknown := known_any w hM
  have hga := fun (W : World) (hW : Below w.heap.size w W) => big_any xa n c a W hn hfa (hx.later hW)
  have hgb := fun (W : World) (hW : Below w.heap.size w W) => big_any ya m d b W hm hfb (hy.later hW)
  have hgq := fun (W : World) (hW : Below w.heap.size w W) => big_any za p g q W hp hfq (hz.later hW)
  cases ba : bigB a with
  | true =>
    rw [ba] at hga
    clear ba hgb hgq
    go_enter Tryd.func4, Tryd.ntmps4
    go_wp2_with fail
    refine hknown.mono ?_
    rintro e w1 ⟨rfl, hb1⟩
    go_wp2_with fail
    refine (hga _ hb1).mono ?_
    rintro e w' ⟨rfl, rfl⟩
    go_wp2
    go_ret
    exact ⟨rfl, hb1⟩
  | false =>
    have hn20 := (big_not ba).1
    rw [hx.1] at hn20
    rw [ba] at hga
    cases bb : bigB b with
    | true =>
      rw [bb] at hgb
      clear ba bb hgq
      go_enter Tryd.func4, Tryd.ntmps4
      go_wp2_with fail
      refine hknown.mono ?_
      rintro e w1 ⟨rfl, hb1⟩
      go_wp2_with fail
      refine (hga _ hb1).mono ?_
      rintro e w' ⟨rfl, rfl⟩
      go_wp2_with fail
      refine (hgb _ hb1).mono ?_
      rintro e w' ⟨rfl, rfl⟩
      go_wp2
      go_ret
      exact ⟨rfl, hb1⟩
    | false =>
      rw [bb] at hgb
      cases bq : bigB q with
      | true =>
        rw [bq] at hgq
        clear ba bb bq
        go_enter Tryd.func4, Tryd.ntmps4
        go_wp2_with fail
        refine hknown.mono ?_
        rintro e w1 ⟨rfl, hb1⟩
        go_wp2_with fail
        refine (hga _ hb1).mono ?_
        rintro e w' ⟨rfl, rfl⟩
        go_wp2_with fail
        refine (hgb _ hb1).mono ?_
        rintro e w' ⟨rfl, rfl⟩
        go_wp2_with fail
        refine (hgq _ hb1).mono ?_
        rintro e w' ⟨rfl, rfl⟩
        go_wp2
        go_ret
        exact ⟨rfl, hb1⟩
      | false =>
        have hmod : cut % (n + 1) ≤ n := by have := Nat.mod_lt cut (show 0 < n + 1 by omega); omega
        refine cmps_core xa n c a ya m d b za p g q cut w hn20 hm hp (by omega) hfa hfb hfq hx hy hz hM hcap ba bb bq (cut % (n + 1)) hmod (by simp) _ rfl (fCmp a b) (fCmp b q) (fCmp a q) rfl (fCmp_neg b a) rfl rfl ?_
        have h1 := fCmp_cases a b
        have h3 := fCmp_cases b q
        have ht := fun h k => fCmp_le_trans (a := a) (b := b) (c := q) h k
        by_cases e1 : fCmp a b = 1
        · exact Or.inl e1
        · by_cases e3 : 0 < fCmp b q
          · exact Or.inr (Or.inl ⟨by omega, e3⟩)
          · exact Or.inr (Or.inr ⟨by omega, by omega, ht (by omega) (by omega)⟩)
end Go.Proofs.YtmhpmlfpflkgbabDoor
