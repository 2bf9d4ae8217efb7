/- LabelQuotes: the walk. -/
import Derived.Test.YtmhpmlfpflkgbabDoorSlice
namespace Go.Proofs.YtmhpmlfpflkgbabDoor
open Go.RowKit

theorem print_len {l : List Pr} : (fPrint l).length ≤ 1000 := by
  unfold fPrint
  split
  · rename_i h
    have h1 := others_is h
    have h2 := metric_len l
    have h3 := inner_le (others l) h1.2
    split
    · omega
    · simp; omega
  · simp
theorem same_b (xa : Option Addr) (n c : Nat) (a : List Pr) (ya : Option Addr) (m d : Nat) (b : List Pr) (w : World) (hn : n ≤ 9223372036854775807) (hm : m ≤ 9223372036854775807) (hx : Ps w xa n a) (hy : Ps w ya m b) :
    Calls Tryd.prog 9 #[.slice xa n c, .slice ya m d] w fun e w' => e = .returned (.bool (sameB a b)) ∧ Below w.heap.size w w' :=
  (same_any xa n c a ya m d b w hn hm hx hy).mono fun _ _ ⟨h1, k, h2⟩ => ⟨h1, by rw [h2]; exact below_drewN (Below.refl _ _) k⟩
/-- A text that opens with a brace and is a set's ends with one. -/
theorem print_ends {m : List Pr} (h : fIs m = true) {t : Str} (e : fPrint m = t) (h0 : t.head? = some 123) : t.getLast? = some 125 := by
  subst e
  unfold fPrint at *
  rw [if_pos h] at *
  split
  · rename_i hm
    rw [if_pos hm] at h0
    unfold metric at h0 hm
    by_cases hn : fName (fGet m nm) = true
    · rw [if_pos hn] at h0
      have := name_no hn 123 (List.mem_of_head? h0)
      exact absurd this (by decide)
    · rw [if_neg hn] at hm
      exact absurd rfl hm.1
  · rw [List.getLast?_append]
    rfl
theorem not_parse {t : Str} {c : UInt8} (h0 : t.head? = some 123) (hl : t.getLast? = some c) (hc : c ≠ 125) : parseE t = 30 := by
  unfold parseE
  rw [if_neg]
  intro h
  obtain ⟨m, hi, hp⟩ := (okParse_iff t).1 h
  have := print_ends hi hp h0
  rw [hl] at this
  cases this
  exact hc rfl
theorem str_head (s : Str) (k : Nat) (h : k ≤ s.length) (W : World) : (Instr.slice 9 (tx s) none (some (.int .i64 (k : Int))) none).run Tryd.prog W = .ok (tx (s.take k)) W := by
  have e : (⟨s.toArray⟩ : ByteArray).extract 0 k = ⟨(s.take k).toArray⟩ := by
    rw [Lib.extract_eq]
    simp
  have u9 := Tryd.underlying9
  have hz : (k : Int) ≤ s.length := by omega
  go_simp
theorem make_names {l : List Pr} {p : Pr} (h : p ∈ makeL l) : p ∈ l := by
  unfold makeL at h
  split at h
  · exact (List.mem_filter.1 ((srt_perm _).mem_iff.1 h)).1
  · cases h
theorem inner_last (l : List Pr) (h : l ≠ []) : (inner l).getLast? = some 34 := by
  induction l with
  | nil => exact absurd rfl h
  | cons p l ih =>
    cases l with
    | nil =>
      rw [inner_one]
      unfold pairT
      rw [List.getLast?_append]
      rfl
    | cons q l =>
      have := ih (by simp)
      rw [inner_cons, List.getLast?_append, List.getLast?_append, this]
      rfl
/-- What is made of two such pairs: its text. -/
theorem two_text {v u : Str} (h0 : makeE [([97], v), ([98], u)] = 0) :
    fPrint (makeL [([97], v), ([98], u)]) = ([123] ++ inner (makeL [([97], v), ([98], u)])) ++ [125] := by
  have hi := make_is h0
  have hg : fGet (makeL [([97], v), ([98], u)]) nm = [] := get_none fun p hp => by
    have := make_names hp
    simp at this
    rcases this with rfl | rfl
    · exact (by decide : ([97] : Str) ≠ nm)
    · exact (by decide : ([98] : Str) ≠ nm)
  unfold fPrint metric others
  rw [if_pos hi, hg]
  rw [if_neg (show ¬ fName [] = true by decide), if_neg (show ¬ fName [] = true by decide), if_neg (fun h => h.1 rfl)]
  simp

set_option maxRecDepth 20000 in
set_option maxHeartbeats 2000000 in
theorem quotes_walk (v u : Str) (w : World) (hv : v.length ≤ 9223372036854775807) (hu : u.length ≤ 9223372036854775807) (hM : Mx w) :
    Calls Tryd.prog 5 #[tx v, tx u] w fun e w' => e = .returned (.bool true) ∧ Below w.heap.size w w' := by
  have hknown := known_any w hM
  have hfit : Fit [([97], v), ([98], u)] := fun p hp => by
    simp at hp
    rcases hp with rfl | rfl
    · exact ⟨by simp, hv⟩
    · exact ⟨by simp, hu⟩
  have hmk := fun W => make_any _ 2 2 _ _ (by omega) hfit (Ps.two W ([97], v) ([98], u))
  have hml := make_len [([97], v), ([98], u)]
  have hmf := make_fit hfit
  have htt := two_text (v := v) (u := u)
  have hmi := make_is (l := [([97], v), ([98], u)])
  generalize makeL [([97], v), ([98], u)] = l at *
  generalize makeE [([97], v), ([98], u)] = E at *
  have hl2 : l.length ≤ 2 := hml
  clear hml hfit
  by_cases h1 : 100 < v.length
  · have h1' : (100 : Int) < v.length := by omega
    go_enter Tryd.func5, Tryd.ntmps5
    go_wp2_with fail
    refine hknown.mono ?_
    rintro e w1 ⟨rfl, hb1⟩
    go_wp2_with fail
    refine (hmk w1).mono ?_
    rintro e w2 ⟨v2, rfl, ho2, hb2⟩
    obtain ⟨a2, c2, rfl, k2⟩ := ho2.fitN
    go_wp2
    go_ret
    exact ⟨rfl, Below.chain (Below.chain hb1 (bal (Below.refl _ _) _)) hb2⟩
  · have h1' : ¬ (100 : Int) < v.length := by omega
    by_cases h2 : 100 < u.length
    · have h2' : (100 : Int) < u.length := by omega
      go_enter Tryd.func5, Tryd.ntmps5
      go_wp2_with fail
      refine hknown.mono ?_
      rintro e w1 ⟨rfl, hb1⟩
      go_wp2_with fail
      refine (hmk w1).mono ?_
      rintro e w2 ⟨v2, rfl, ho2, hb2⟩
      obtain ⟨a2, c2, rfl, k2⟩ := ho2.fitN
      go_wp2
      go_ret
      exact ⟨rfl, Below.chain (Below.chain hb1 (bal (Below.refl _ _) _)) hb2⟩
    · have h2' : ¬ (100 : Int) < u.length := by omega
      by_cases h3 : E = 0
      · subst h3
        by_cases h4 : l = []
        · subst h4
          go_enter Tryd.func5, Tryd.ntmps5
          go_wp2_with fail
          refine hknown.mono ?_
          rintro e w1 ⟨rfl, hb1⟩
          go_wp2_with fail
          refine (hmk w1).mono ?_
          rintro e w2 ⟨v2, rfl, ho2, hb2⟩
          obtain ⟨a2, c2, rfl, k2⟩ := ho2.fitN
          go_wp2
          go_ret
          exact ⟨rfl, Below.chain (Below.chain hb1 (bal (Below.refl _ _) _)) hb2⟩
        · have h4' : ((l.length : Int) == 0) = false := by
            rw [beq_eq_false_iff_ne]
            intro e
            exact h4 (List.length_eq_zero_iff.1 (by omega))
          have hI := hmi rfl
          have hP := htt rfl
          have hpp := parse_print hI
          have hpl := print_len (l := l)
          have hil := inner_last l h4
          -- the texts
          have hpr := fun (W : World) (hW : Mx W) (xa : Option Addr) (c : Nat) (hps : Ps W xa l.length l) => print_any xa l.length c l W (by omega) hmf hW hps
          rw [hP] at hpp hpl hpr
          obtain ⟨q, hq⟩ : ∃ q, q = [123] ++ inner l := ⟨_, rfl⟩
          rw [← hq] at hpp hpl hpr
          have hqh : q.head? = some 123 := by rw [hq]; rfl
          have hql : q.getLast? = some 34 := by rw [hq, List.getLast?_append, hil]; rfl
          have hp0 := fun (W : World) (hW : Mx W) => parse_any (q ++ [125]) W (by omega) hW
          rw [hpp.2.1, hpp.2.2] at hp0
          have e1 : parseE q = 30 := not_parse hqh hql (by decide)
          have e2 : parseE (q ++ [125] ++ [34]) = 30 := not_parse (c := 34) (by rw [List.head?_append, List.head?_append, hqh]; rfl) (by simp) (by decide)
          have e3 : parseE (q ++ [125] ++ [32]) = 30 := not_parse (c := 32) (by rw [List.head?_append, List.head?_append, hqh]; rfl) (by simp) (by decide)
          have hqn : q.length ≤ 999 := by simp at hpl; omega
          have hp1 := fun (W : World) (hW : Mx W) => parse_any q W (by omega) hW
          have hp2 := fun (W : World) (hW : Mx W) => parse_any (q ++ [125] ++ [34]) W (by simp; omega) hW
          have hp3 := fun (W : World) (hW : Mx W) => parse_any (q ++ [125] ++ [32]) W (by simp; omega) hW
          rw [e1] at hp1
          rw [e2] at hp2
          rw [e3] at hp3
          have hsm : sameB l l = true := by unfold sameB; simp
          have hss := fun (W : World) (xa ya : Option Addr) (c d : Nat) (k1 : Ps W xa l.length l) (k2 : Ps W ya l.length l) => same_b xa l.length c l ya l.length d l W (by omega) (by omega) k1 k2
          rw [hsm] at hss
          have hS : ∃ s : Str, s = q ++ [125] := ⟨_, rfl⟩
          obtain ⟨s, hs⟩ := hS
          have hT : ∃ t : Str, t = q ++ [125] ++ [34] := ⟨_, rfl⟩
          obtain ⟨t, ht⟩ := hT
          have hR : ∃ r : Str, r = q ++ [125] ++ [32] := ⟨_, rfl⟩
          obtain ⟨r, hr⟩ := hR
          rw [← hs] at hpr hp0
          rw [← ht] at hp2
          rw [← hr] at hp3
          have hln : s.length = q.length + 1 := by rw [hs]; simp
          have a1 : (⟨s.toArray⟩ : ByteArray) ++ ⟨#[34]⟩ = ⟨t.toArray⟩ := by rw [ht, ← hs]; exact ba_append s [34]
          have a2 : (⟨s.toArray⟩ : ByteArray) ++ ⟨#[32]⟩ = ⟨r.toArray⟩ := by rw [hr, ← hs]; exact ba_append s [32]
          have hsl : ∀ W, (Instr.slice 9 (tx s) none (some (.int .i64 (q.length : Int))) none).run Tryd.prog W = .ok (tx q) W := fun W => by
            have h := str_head s q.length (by omega) W
            have e0 : s.take q.length = q := by rw [hs]; simp
            rw [e0] at h
            exact h
          have hi0 : ∀ W, (Instr.index 9 (tx s) (.int .i64 0)).run Tryd.prog W = .ok (.int .u8 123) W := fun W => by
            have hz : (0 : Nat) < (⟨s.toArray⟩ : ByteArray).size := by rw [ba_size, hln]; omega
            have := index_at s 0 hz W
            have e0 : (⟨s.toArray⟩ : ByteArray)[0]'hz = 123 := by
              show s.toArray[0]'(by simpa [ba_size] using hz) = 123
              simp [hs, hq]
            rw [e0] at this
            exact this
          have hi1 : ∀ W, (Instr.index 9 (tx s) (.int .i64 (q.length : Int))).run Tryd.prog W = .ok (.int .u8 125) W := fun W => by
            have hz : q.length < (⟨s.toArray⟩ : ByteArray).size := by rw [ba_size, hln]; omega
            have := index_at s q.length hz W
            have e0 : (⟨s.toArray⟩ : ByteArray)[q.length]'hz = 125 := by
              show s.toArray[q.length]'(by simpa [ba_size] using hz) = 125
              simp [hs]
            rw [e0] at this
            exact this
          clear hs ht hr hq hP hpp hpl hil hqh hql e1 e2 e3 hsm htt hmi h4 h1 h2
          go_enter Tryd.func5, Tryd.ntmps5
          go_wp2_with fail
          refine hknown.mono ?_
          rintro e w1 ⟨rfl, hb1⟩
          go_wp2_with fail
          refine (hmk w1).mono ?_
          rintro e w2 ⟨v2, rfl, ho2, hb2⟩
          obtain ⟨b2, c2, rfl, k2⟩ := ho2.fitN
          have B2 : Below w.heap.size w w2 := Below.chain (Below.chain hb1 (bal (Below.refl _ _) _)) hb2
          clear hb1 hb2 ho2 hmk hknown
          go_wp2_with fail
          refine (hpr w2 (hM.later B2) b2 c2 k2).mono ?_
          rintro e w3 ⟨rfl, hb3⟩
          have B3 := Below.chain B2 hb3
          have k3 := k2.later hb3
          clear hpr B2 hb3 k2
          go_wp2_with fail
          refine (hp0 w3 (hM.later B3)).mono ?_
          rintro e w4 ⟨v4, rfl, ho4, hb4⟩
          obtain ⟨b4, c4, rfl, m4⟩ := ho4.fitN
          have B4 := Below.chain B3 hb4
          have k4 := k3.later hb4
          clear hp0 B3 hb4 k3 ho4
          go_wp2_with fail
          refine (hp1 w4 (hM.later B4)).mono ?_
          rintro e w5 ⟨v5, rfl, ho5, hb5⟩
          obtain ⟨b5, c5, rfl, _⟩ := ho5.fitN
          have B5 := Below.chain B4 hb5
          have k5 := k4.later hb5
          have m5 := m4.later hb5
          clear hp1 B4 hb5 k4 m4 ho5
          go_wp2_with fail
          refine (hp2 w5 (hM.later B5)).mono ?_
          rintro e w6 ⟨v6, rfl, ho6, hb6⟩
          obtain ⟨b6, c6, rfl, _⟩ := ho6.fitN
          have B6 := Below.chain B5 hb6
          have k6 := k5.later hb6
          have m6 := m5.later hb6
          clear hp2 B5 hb6 k5 m5 ho6
          go_wp2_with fail
          refine (hp3 w6 (hM.later B6)).mono ?_
          rintro e w7 ⟨v7, rfl, ho7, hb7⟩
          obtain ⟨b7, c7, rfl, _⟩ := ho7.fitN
          have B7 := Below.chain B6 hb7
          have k7 := k6.later hb7
          have m7 := m6.later hb7
          clear hp3 B6 hb7 k6 m6 ho7
          go_wp2_with fail
          refine (hss w7 b2 b4 c2 c4 k7 m7).mono ?_
          rintro e w8 ⟨rfl, hb8⟩
          go_wp2
          go_ret
          exact ⟨rfl, Below.chain B7 hb8⟩
      · have h3' : (E != 0) = true := by rw [bne_iff_ne]; exact h3
        go_enter Tryd.func5, Tryd.ntmps5
        go_wp2_with fail
        refine hknown.mono ?_
        rintro e w1 ⟨rfl, hb1⟩
        go_wp2_with fail
        refine (hmk w1).mono ?_
        rintro e w2 ⟨v2, rfl, ho2, hb2⟩
        obtain ⟨a2, c2, rfl, k2⟩ := ho2.fitN
        go_wp2
        go_ret
        exact ⟨rfl, Below.chain (Below.chain hb1 (bal (Below.refl _ _) _)) hb2⟩
end Go.Proofs.YtmhpmlfpflkgbabDoor
