/- LabelReads: every text is read alike by both readers. -/
import Derived.Test.YtmhpmlfpflkgbaaDoorRefParse
namespace Go.Proofs.YtmhpmlfpflkgbaaDoor
open Go.RowKit

theorem parse_len (s : Str) : (parseL s).length ≤ 8 := by
  unfold parseL
  split
  · rename_i h
    obtain ⟨m, hm, hp⟩ := (okParse_iff s).1 h
    have := (parse_print hm).2.2
    rw [hp] at this
    unfold parseL at this
    rw [if_pos h] at this
    rw [this]
    exact ((is_iff m).1 hm).1
  · simp
theorem same_r (xa : Option Addr) (n c : Nat) (a : List Pr) (ya : Option Addr) (m d : Nat) (w : World) (hn : n ≤ 9223372036854775807) (hm : m ≤ 9223372036854775807) (hx : Ps w xa n a) (hy : Ps w ya m a) :
    Calls Tryd.prog 11 #[.slice xa n c, .slice ya m d] w fun e w' => e = .returned (.bool true) ∧ Below w.heap.size w w' :=
  (same_any xa n c a ya m d a w hn hm hx hy).mono fun _ _ ⟨h1, k, h2⟩ => ⟨by rw [h1]; have : sameB a a = true := by unfold sameB; simp
                                                                             rw [this], by rw [h2]; exact below_drewN (Below.refl _ _) k⟩

set_option maxRecDepth 100000 in
set_option maxHeartbeats 2000000 in
theorem reads_walk (s : Str) (w : World) (hs : s.length ≤ 9223372036854775807) (hM : Mx w) :
    Calls Tryd.prog 3 #[tx s] w fun e w' => e = .returned (.bool true) ∧ Below w.heap.size w w' := by
  have hknown := known_any w hM
  by_cases h5 : s.length ≤ 500
  · have h5' : ¬ (500 : Int) < s.length := by omega
    have hpl := parse_len s
    have hpe : parseE s = if okParse s = true then 0 else 30 := rfl
    have hpa := fun (W : World) (hW : Below w.heap.size w W) => parse_any s W (by omega) (hM.later hW)
    have hpr := fun (W : World) => refParse_any s W (by omega)
    generalize parseL s = X at *
    obtain ⟨N, hN⟩ : ∃ N, X.length = N := ⟨_, rfl⟩
    rw [hN] at hpl
    have HN : Hid _ := hN
    clear hN
    cases ok : okParse s with
    | true =>
      rw [ok] at hpr hpe
      rw [if_pos rfl] at hpe
      rw [hpe] at hpa
      clear ok hpe
      go_enter Tryd.func3, Tryd.ntmps3
      go_wp2_with fail
      refine hknown.mono ?_
      rintro e w0 ⟨rfl, hb0⟩
      go_wp2_with fail
      refine (hpa _ hb0).mono ?_
      rintro e w1 ⟨v1, rfl, ho1, hb1⟩
      have B1 := Below.chain hb0 hb1
      obtain ⟨a1, c1, rfl, hp1, _⟩ := own_slice6 ho1 HN.out
      clear hpa ho1
      go_wp2_with fail
      refine (hpr _).mono ?_
      rintro e w2 ⟨v2, rfl, ho2, hb2⟩
      have B2 := Below.chain B1 hb2
      obtain ⟨a2, c2, rfl, hp2, _⟩ := own_slice6 ho2 HN.out
      have hsm := same_r a1 N c1 X a2 N c2 w2 (by omega) (by omega) (hp1.later hb2) hp2
      clear hpr ho2 hp1 hp2
      go_wp2_with fail
      refine hsm.mono ?_
      rintro e w3 ⟨rfl, hb3⟩
      go_wp2_with fail
      go_ret
      exact ⟨rfl, Below.chain B2 hb3⟩
    | false =>
      rw [ok] at hpr hpe
      rw [if_neg (by decide)] at hpe
      rw [hpe] at hpa
      clear ok hpe
      go_enter Tryd.func3, Tryd.ntmps3
      go_wp2_with fail
      refine hknown.mono ?_
      rintro e w0 ⟨rfl, hb0⟩
      go_wp2_with fail
      refine (hpa _ hb0).mono ?_
      rintro e w1 ⟨v1, rfl, ho1, hb1⟩
      have B1 := Below.chain hb0 hb1
      obtain ⟨a1, c1, rfl, hp1, _⟩ := own_slice6 ho1 HN.out
      clear hpa ho1
      go_wp2_with fail
      refine (hpr _).mono ?_
      rintro e w2 ⟨v2, rfl, ho2, hb2⟩
      have B2 := Below.chain B1 hb2
      obtain ⟨a2, c2, rfl, hp2, _⟩ := own_slice6 ho2 HN.out
      have hsm := same_r a1 N c1 X a2 N c2 w2 (by omega) (by omega) (hp1.later hb2) hp2
      clear hpr ho2 hp1 hp2
      go_wp2_with fail
      refine hsm.mono ?_
      rintro e w3 ⟨rfl, hb3⟩
      go_wp2_with fail
      go_ret
      exact ⟨rfl, Below.chain B2 hb3⟩
  · have h5' : (500 : Int) < s.length := by omega
    go_enter Tryd.func3, Tryd.ntmps3
    go_wp2_with fail
    refine hknown.mono ?_
    rintro e w0 ⟨rfl, hb0⟩
    go_wp2_with fail
    go_ret
    exact ⟨rfl, hb0⟩
end Go.Proofs.YtmhpmlfpflkgbaaDoor
