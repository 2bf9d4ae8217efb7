/- number, duration, isSign, sign, text, amount, first: each for every argument. -/
import Derived.Test.YtajbjbnfklllkaaGreatDoorXLeaf
import Derived.Lib.ItoaLen
namespace Go.Proofs.YtajbjbnfklllkaaGreatDoor
open Go.RowKit

theorem rt_of {o : Option (Tk × Nat)} {y : Tk × Nat} (h : o.getD (tk0, 0) = y) : rt o = .tuple #[tv y.1, .int .i64 (y.2 : Nat)] := by rw [← h]
theorem number_any (s : Str) (w : World) (hs : s.length ≤ 1000) : Calls Tryz.prog 50 #[tx s] w fun e w' => e = .returned (rt (tkNum s)) ∧ Below w.heap.size w w' := by
  have hb0 : Below w.heap.size w (w.alloc (.cells #[.int .i64 0, .int .i64 0, .string ⟨#[]⟩, .bool false, .int .i64 0, .int .i64 0] 36)) := bal (Below.refl _ _) _
  have hx := BoxT.new0 w
  have hp := Fx.parse_any s (w.alloc (.cells #[.int .i64 0, .int .i64 0, .string ⟨#[]⟩, .bool false, .int .i64 0, .int .i64 0] 36)) hs
  cases h : Fx.fParse s with
  | none =>
    rw [h] at hp
    have HR : Hid ((tkNum s).getD (tk0, 0) = (tk0, 0)) := by show _ = _; unfold tkNum; rw [h]; rfl
    clear h
    simp only [Fx.po, Fx.pn, Fx.pe] at hp
    go_enter Tryz.func50, Tryz.ntmps50
    go_wp2_with fail
    refine hp.mono ?_
    rintro e w1 ⟨rfl, hb1⟩
    obtain ⟨c0, c1, c2, c3, c4, c5, f0, f1, f2, f3, f4, f5⟩ := (hx.later hb1).later (bal (Below.refl _ _) (.cells #[.bool false, .int .i64 0] 34))
    go_wp2
    exact bodyPost_ret (v := .tuple #[.agg #[.int .i64 0, .int .i64 0, .string ⟨#[]⟩, .bool false, .int .i64 0, .int .i64 0], .int .i64 0]) (by simp [results, Tryz.results50, go_sem, c0, c1, c2, c3, c4, c5]) rfl ⟨by rw [rt_of HR.out]; rfl, below6 (bal (Below.chain hb0 hb1) _) (Nat.le_refl _) _ _ _ _ _ _⟩
  | some r =>
    rw [h] at hp
    cases r with
    | none =>
      have HR : Hid ((tkNum s).getD (tk0, 0) = (tk0, 0)) := by show _ = _; unfold tkNum; rw [h]; rfl
      clear h
      simp only [Fx.po, Fx.pn, Fx.pe, Fx.ov, Fx.nn] at hp
      go_enter Tryz.func50, Tryz.ntmps50
      go_wp2_with fail
      refine hp.mono ?_
      rintro e w1 ⟨rfl, hb1⟩
      obtain ⟨c0, c1, c2, c3, c4, c5, f0, f1, f2, f3, f4, f5⟩ := (hx.later hb1).later (bal (Below.refl _ _) (.cells #[.bool true, .int .i64 0] 34))
      go_wp2
      exact bodyPost_ret (v := .tuple #[.agg #[.int .i64 0, .int .i64 0, .string ⟨#[]⟩, .bool false, .int .i64 0, .int .i64 0], .int .i64 0]) (by simp [results, Tryz.results50, go_sem, c0, c1, c2, c3, c4, c5]) rfl ⟨by rw [rt_of HR.out]; rfl, below6 (bal (Below.chain hb0 hb1) _) (Nat.le_refl _) _ _ _ _ _ _⟩
    | some v =>
      have HR : Hid ((tkNum s).getD (tk0, 0) = (tNum v, s.length)) := by show _ = _; unfold tkNum; rw [h]; rfl
      clear h
      simp only [Fx.po, Fx.pn, Fx.pe, Fx.ov, Fx.nn] at hp
      go_enter Tryz.func50, Tryz.ntmps50
      go_wp2_with fail
      refine hp.mono ?_
      rintro e w1 ⟨rfl, hb1⟩
      obtain ⟨c0, c1, c2, c3, c4, c5, f0, f1, f2, f3, f4, f5⟩ := (hx.later hb1).later (bal (Below.refl _ _) (.cells #[.bool false, .int .i64 v] 34))
      go_wp2
      exact bodyPost_ret (v := .tuple #[.agg #[.int .i64 2, .int .i64 0, .string ⟨#[]⟩, .bool false, .int .i64 v, .int .i64 0], .int .i64 s.length]) (by simp [results, Tryz.results50, go_sem, c0, c1, c2, c3, c4, c5]) rfl ⟨by rw [rt_of HR.out]; rfl, below6 (bal (Below.chain hb0 hb1) _) (Nat.le_refl _) _ _ _ _ _ _⟩

/-! ### Durations -/
theorem itoa_any (n : Int) (w : World) (h0 : -9223372036854775808 ≤ n) (h1 : n ≤ 9223372036854775807) (ht : Fx.Tab Tryz.prog w) : Calls Tryz.prog 60 #[.int .i64 n] w fun e w' => e = .returned (tx (Lib.itoa n)) ∧ Below w.heap.size w w' := by
  refine (Tryz.x_strconv_Itoa n h0 h1 w ht).mono ?_
  rintro e w' ⟨rfl, k, os, rfl⟩
  exact ⟨rfl, Fx.below_grow w k os⟩
theorem bytesWorld_below' (w : World) (t : TypeId) (s : ByteArray) : Below w.heap.size w (Lib.bytesWorld w t s) := Lib.bytesWorld_below _ _ _
theorem atoi_ok (s : Str) (v : Int) (w : World) (hs : s.length ≤ 1000000) (h : Lib.atoiAll s = .ok v) : Calls Tryz.prog 68 #[tx s] w fun e w' => e = .returned (.tuple #[.int .i64 v, .nilIface]) ∧ Below w.heap.size w w' := by
  refine (Tryz.x_strconv_Atoi_ok ⟨s.toArray⟩ (by rw [ba_size]; omega) v h w).mono ?_
  rintro e w' ⟨rfl, h⟩
  refine ⟨rfl, ?_⟩
  rcases h with rfl | ⟨t, rfl⟩
  · exact Below.refl _ _
  · exact bytesWorld_below' _ _ _
theorem atoi_no (s : Str) (w : World) (hs : s.length ≤ 1000000) (h : ∀ v, Lib.atoiAll s ≠ .ok v) (he : Ev w) : Calls Tryz.prog 68 #[tx s] w fun e w' => ∃ v t a, e = .returned (.tuple #[.int .i64 v, .iface t (.pointer (some a))]) ∧ Below w.heap.size w w' := by
  cases hc : Lib.atoiAll s with
  | ok v => exact absurd hc (h v)
  | «syntax» =>
    obtain ⟨ev, h1, h2⟩ := he.e2
    refine (Tryz.x_strconv_Atoi_syntax ⟨s.toArray⟩ (by rw [ba_size]; omega) hc ev w h1 h2).mono ?_
    rintro e w' ⟨N, rfl, _, _, hb⟩
    exact ⟨_, _, _, rfl, hb⟩
  | range =>
    obtain ⟨ev, h1, h2⟩ := he.e3
    refine (Tryz.x_strconv_Atoi_range ⟨s.toArray⟩ (by rw [ba_size]; omega) hc ev w h1 h2).mono ?_
    rintro e w' ⟨N, rfl, _, _, hb⟩
    exact ⟨_, _, _, rfl, hb⟩
theorem printedDur_any (n : Int) (w : World) (h0 : -9223372036854775808 ≤ n) (h1 : n ≤ 9223372036854775807) (ht : Fx.Tab Tryz.prog w) : Calls Tryz.prog 37 #[.int .i64 n] w fun e w' => e = .returned (tx (Lib.itoa n ++ [116])) ∧ Below w.heap.size w w' := by
  have hi := itoa_any n w h0 h1 ht
  have hl := Lib.itoa_length_le n h0 h1
  generalize Lib.itoa n = t at *
  have a1 : (⟨t.toArray⟩ : ByteArray) ++ ⟨#[116]⟩ = ⟨(t ++ [116]).toArray⟩ := ba_append t [116]
  obtain ⟨r, hr⟩ : ∃ r, r = t ++ [116] := ⟨_, rfl⟩
  rw [← hr] at a1 ⊢
  clear hr
  go_enter Tryz.func37, Tryz.ntmps37
  go_wp2_with fail
  refine hi.mono ?_
  rintro e w1 ⟨rfl, hb1⟩
  go_wp2_with fail
  go_ret
  exact ⟨rfl, hb1⟩
theorem trimSuffix_any (u : Str) (w : World) (hs : u.length ≤ 1000000) : Calls Tryz.prog 69 #[tx (u ++ [116]), .string ⟨#[116]⟩] w fun e w' => e = .returned (tx u) ∧ w = w' := by
  have ht : Lib.trimSuffix (u ++ [116]) [116] = u := by
    unfold Lib.trimSuffix
    rw [if_pos (by unfold Lib.hasSuffix; simp)]
    simp
  have hl : (u ++ [116]).length ≤ 9223372036854775807 := by simp; omega
  generalize u ++ [116] = s at *
  refine (Tryz.x_strings_TrimSuffix ⟨s.toArray⟩ ⟨#[116]⟩ w (by rw [ba_size]; exact hl)).mono ?_
  rintro e w' ⟨rfl, rfl⟩
  refine ⟨?_, rfl⟩
  show Ending.returned (.string ⟨(Lib.trimSuffix s [116]).toArray⟩) = _
  rw [ht]
set_option maxHeartbeats 1000000 in
theorem duration_any (u : Str) (w : World) (hs : u.length ≤ 1000) (he : Ev w) : Calls Tryz.prog 49 #[tx (u ++ [116])] w fun e w' => e = .returned (rt (tkDur u)) ∧ Below w.heap.size w w' := by
  have hb0 : Below w.heap.size w (w.alloc (.cells #[.int .i64 0, .int .i64 0, .string ⟨#[]⟩, .bool false, .int .i64 0, .int .i64 0] 36)) := bal (Below.refl _ _) _
  have hx := BoxT.new0 w
  have he0 := he.later hb0
  have ht := trimSuffix_any u (w.alloc (.cells #[.int .i64 0, .int .i64 0, .string ⟨#[]⟩, .bool false, .int .i64 0, .int .i64 0] 36)) (by omega)
  have HL : Hid ((u ++ [116]).length = u.length + 1) := by show _ = _; simp
  cases hd : duOk u with
  | true =>
    obtain ⟨a1, a2⟩ := atoi_du hd
    obtain ⟨d1, d2, d3, d4, d5, d6⟩ := duOk_of hd
    have HR : Hid ((tkDur u).getD (tk0, 0) = (tDur (Fx.rd u : Nat), u.length + 1)) := by show _ = _; unfold tkDur; rw [if_pos hd]; rfl
    have ha := atoi_ok u _ (w.alloc (.cells #[.int .i64 0, .int .i64 0, .string ⟨#[]⟩, .bool false, .int .i64 0, .int .i64 0] 36)) (by omega) a1
    have hpd := fun W (hW : Ev W) => printedDur_any (Fx.rd u : Int) W (by omega) (by omega) hW.tab
    rw [a2] at hpd
    clear hd a1 a2 d1 d2 d3 d4
    generalize Fx.rd u = n at *
    obtain ⟨s, hsu⟩ : ∃ s, s = u ++ [116] := ⟨_, rfl⟩
    rw [← hsu] at ht hpd HL ⊢
    clear hsu
    go_enter Tryz.func49, Tryz.ntmps49
    go_wp2_with fail
    refine ht.mono ?_
    rintro e w1 ⟨rfl, rfl⟩
    go_wp2_with fail
    refine ha.mono ?_
    rintro e w1 ⟨rfl, hb1⟩
    go_wp2_with fail
    refine (hpd _ (he0.later hb1)).mono ?_
    rintro e w2 ⟨rfl, hb2⟩
    obtain ⟨c0, c1, c2, c3, c4, c5, f0, f1, f2, f3, f4, f5⟩ := (hx.later hb1).later hb2
    go_wp2
    exact bodyPost_ret (v := .tuple #[.agg #[.int .i64 3, .int .i64 0, .string ⟨#[]⟩, .bool false, .int .i64 0, .int .i64 n], .int .i64 s.length]) (by simp [results, Tryz.results49, go_sem, c0, c1, c2, c3, c4, c5]) rfl ⟨by rw [rt_of HR.out, HL.out]; rfl, below6 (Below.chain (Below.chain hb0 hb1) hb2) (Nat.le_refl _) _ _ _ _ _ _⟩
  | false =>
    have HR : Hid ((tkDur u).getD (tk0, 0) = (tk0, 0)) := by show _ = _; unfold tkDur; rw [if_neg (by simp [hd])]; rfl
    by_cases hok : ∃ v, Lib.atoiAll u = .ok v
    · obtain ⟨v, hv⟩ := hok
      obtain ⟨b0, b1⟩ := Lib.atoiAll_bounds hv
      have ha := atoi_ok u v (w.alloc (.cells #[.int .i64 0, .int .i64 0, .string ⟨#[]⟩, .bool false, .int .i64 0, .int .i64 0] 36)) (by omega) hv
      have hpd := fun W (hW : Ev W) => printedDur_any v W (by omega) (by omega) hW.tab
      by_cases hp : Lib.itoa v = u
      · have hr := du_no hd hp
        rw [hp] at hpd
        clear hd hv hp
        obtain ⟨s, hsu⟩ : ∃ s, s = u ++ [116] := ⟨_, rfl⟩
        rw [← hsu] at ht hpd ⊢
        clear hsu HL
        by_cases h1 : v < 1
        · clear hr
          go_enter Tryz.func49, Tryz.ntmps49
          go_wp2_with fail
          refine ht.mono ?_
          rintro e w1 ⟨rfl, rfl⟩
          go_wp2_with fail
          refine ha.mono ?_
          rintro e w1 ⟨rfl, hb1⟩
          go_wp2_with fail
          refine (hpd _ (he0.later hb1)).mono ?_
          rintro e w2 ⟨rfl, hb2⟩
          obtain ⟨c0, c1, c2, c3, c4, c5, f0, f1, f2, f3, f4, f5⟩ := (hx.later hb1).later hb2
          go_wp2
          exact bodyPost_ret (v := .tuple #[.agg #[.int .i64 0, .int .i64 0, .string ⟨#[]⟩, .bool false, .int .i64 0, .int .i64 0], .int .i64 0]) (by simp [results, Tryz.results49, go_sem, c0, c1, c2, c3, c4, c5]) rfl ⟨by rw [rt_of HR.out]; rfl, below6 (Below.chain (Below.chain hb0 hb1) hb2) (Nat.le_refl _) _ _ _ _ _ _⟩
        · have h2 : 100 < v := by omega
          clear hr
          go_enter Tryz.func49, Tryz.ntmps49
          go_wp2_with fail
          refine ht.mono ?_
          rintro e w1 ⟨rfl, rfl⟩
          go_wp2_with fail
          refine ha.mono ?_
          rintro e w1 ⟨rfl, hb1⟩
          go_wp2_with fail
          refine (hpd _ (he0.later hb1)).mono ?_
          rintro e w2 ⟨rfl, hb2⟩
          obtain ⟨c0, c1, c2, c3, c4, c5, f0, f1, f2, f3, f4, f5⟩ := (hx.later hb1).later hb2
          go_wp2
          exact bodyPost_ret (v := .tuple #[.agg #[.int .i64 0, .int .i64 0, .string ⟨#[]⟩, .bool false, .int .i64 0, .int .i64 0], .int .i64 0]) (by simp [results, Tryz.results49, go_sem, c0, c1, c2, c3, c4, c5]) rfl ⟨by rw [rt_of HR.out]; rfl, below6 (Below.chain (Below.chain hb0 hb1) hb2) (Nat.le_refl _) _ _ _ _ _ _⟩
      · have hne : Lib.itoa v ++ [116] ≠ u ++ [116] := fun e => hp (List.append_cancel_right e)
        clear hd hv hp
        obtain ⟨s, hsu⟩ : ∃ s, s = u ++ [116] := ⟨_, rfl⟩
        obtain ⟨t, htu⟩ : ∃ t, t = Lib.itoa v ++ [116] := ⟨_, rfl⟩
        rw [← hsu] at ht hne ⊢
        rw [← htu] at hpd hne
        have hn1 : (t != s) = true := by rw [bne_iff_ne]; exact hne
        have hn2 : (t == s) = false := by rw [beq_eq_false_iff_ne]; exact hne
        clear hsu htu HL hne
        go_enter Tryz.func49, Tryz.ntmps49
        go_wp2_with fail
        refine ht.mono ?_
        rintro e w1 ⟨rfl, rfl⟩
        go_wp2_with fail
        refine ha.mono ?_
        rintro e w1 ⟨rfl, hb1⟩
        go_wp2_with fail
        refine (hpd _ (he0.later hb1)).mono ?_
        rintro e w2 ⟨rfl, hb2⟩
        obtain ⟨c0, c1, c2, c3, c4, c5, f0, f1, f2, f3, f4, f5⟩ := (hx.later hb1).later hb2
        go_wp2
        exact bodyPost_ret (v := .tuple #[.agg #[.int .i64 0, .int .i64 0, .string ⟨#[]⟩, .bool false, .int .i64 0, .int .i64 0], .int .i64 0]) (by simp [results, Tryz.results49, go_sem, c0, c1, c2, c3, c4, c5]) rfl ⟨by rw [rt_of HR.out]; rfl, below6 (Below.chain (Below.chain hb0 hb1) hb2) (Nat.le_refl _) _ _ _ _ _ _⟩
    · have ha := atoi_no u (w.alloc (.cells #[.int .i64 0, .int .i64 0, .string ⟨#[]⟩, .bool false, .int .i64 0, .int .i64 0] 36)) (by omega) (fun v hv => hok ⟨v, hv⟩) he0
      clear hok hd
      obtain ⟨s, hsu⟩ : ∃ s, s = u ++ [116] := ⟨_, rfl⟩
      rw [← hsu] at ht ⊢
      clear hsu HL
      go_enter Tryz.func49, Tryz.ntmps49
      go_wp2_with fail
      refine ht.mono ?_
      rintro e w1 ⟨rfl, rfl⟩
      go_wp2_with fail
      refine ha.mono ?_
      rintro e w1 ⟨v, t, a, rfl, hb1⟩
      obtain ⟨c0, c1, c2, c3, c4, c5, f0, f1, f2, f3, f4, f5⟩ := hx.later hb1
      go_wp2
      exact bodyPost_ret (v := .tuple #[.agg #[.int .i64 0, .int .i64 0, .string ⟨#[]⟩, .bool false, .int .i64 0, .int .i64 0], .int .i64 0]) (by simp [results, Tryz.results49, go_sem, c0, c1, c2, c3, c4, c5]) rfl ⟨by rw [rt_of HR.out]; rfl, below6 (Below.chain hb0 hb1) (Nat.le_refl _) _ _ _ _ _ _⟩

/-! ### Signs -/
set_option maxHeartbeats 1000000 in
theorem isSign_any (s : Str) (w : World) : Calls Tryz.prog 53 #[tx s] w fun e w' => e = .returned (.bool (isSg s)) ∧ w = w' := by
  cases h : isSg s with
  | true =>
    rcases sign_cases h with rfl | rfl | rfl | rfl | rfl | rfl | rfl | rfl | rfl | rfl | rfl | rfl | rfl | rfl | rfl | rfl | rfl | rfl | rfl | rfl <;> (
      clear h
      go_enter Tryz.func53, Tryz.ntmps53
      go_wp2
      go_ret
      exact ⟨rfl, rfl⟩)
  | false =>
    have hall : ∀ t ∈ signs, (s == t) = false := by
      intro t ht
      rw [beq_eq_false_iff_ne]
      rintro rfl
      unfold isSg at h
      rw [List.contains_iff_mem.2 ht] at h
      cases h
    unfold signs at hall
    simp only [List.mem_cons, List.not_mem_nil, or_false, forall_eq_or_imp, forall_eq] at hall
    obtain ⟨h1, h2, h3, h4, h5, h6, h7, h8, h9, h10, h11, h12, h13, h14, h15, h16, h17, h18, h19, h20⟩ := hall
    clear h
    go_enter Tryz.func53, Tryz.ntmps53
    go_wp2
    go_ret
    exact ⟨rfl, rfl⟩
def sgF (s : Str) : Nat → Option (Tk × Nat)
  | 0 => none
  | j + 1 => if isSg (s.take (j + 1)) = true then some (tSign (s.take (j + 1)), j + 1) else sgF s j
theorem sgF_eq {s : Str} (hs : s ≠ []) : sgF s (min s.length 2) = tkSg s := by
  unfold tkSg
  by_cases h2 : 2 ≤ s.length
  · have e : min s.length 2 = 2 := by omega
    rw [e]
    simp [sgF, h2]
  · have h1 : s.length = 1 := by
      cases s with
      | nil => exact absurd rfl hs
      | cons c r => simp at h2 ⊢; omega
    have e : min s.length 2 = 1 := by omega
    rw [e]
    simp [sgF, h1]
set_option maxHeartbeats 1000000 in
theorem sign_any (s : Str) (w : World) (hs : s.length ≤ 1000) (hne : s ≠ []) : Calls Tryz.prog 31 #[tx s] w fun e w' => e = .returned (rt (tkSg s)) ∧ Below w.heap.size w w' := by
  have hg := fun (j : Nat) W => isSign_any (s.take j) W
  have hex := fun j => Fx.ba_take s j
  have HS : Hid (sgF s (min s.length 2) = tkSg s) := sgF_eq hne
  clear hne
  go_enter Tryz.func31, Tryz.ntmps31
  go_wp2_with fail
  go_loop [4] (fun i => ∃ j : Nat, j ≤ 2 ∧ j ≤ s.length ∧ i = .int .i64 j ∧ Hid (sgF s j = tkSg s)) (fun i => (intOf i).toNat)
  case atStart => exact ⟨min s.length 2, by omega, by omega, by first | (simp; done) | (simp; omega), HS⟩
  case round =>
    obtain ⟨j, hj2, hjs, rfl, HJ⟩ := hrel
    cases j with
    | zero =>
      have HR : Hid ((tkSg s).getD (tk0, 0) = (tk0, 0)) := by show _ = _; rw [← HJ.out]; rfl
      clear HJ HS
      go_wp2
      exact bodyPost_ret (v := .tuple #[.agg #[.int .i64 0, .int .i64 0, .string ⟨#[]⟩, .bool false, .int .i64 0, .int .i64 0], .int .i64 0]) (by simp [results, Tryz.results31, go_sem]) rfl ⟨by rw [rt_of HR.out]; rfl, bal (Below.refl _ _) _⟩
    | succ j =>
      have hgj := hg (j + 1)
      have hexj := hex (j + 1)
      cases hc : isSg (s.take (j + 1)) with
      | true =>
        have HR : Hid ((tkSg s).getD (tk0, 0) = (tSign (s.take (j + 1)), j + 1)) := by show _ = _; rw [← HJ.out, sgF, if_pos hc]; rfl
        rw [hc] at hgj
        clear HJ HS hc hex hg
        generalize s.take (j + 1) = r at *
        have hp1 : (0 : Int) < (j : Int) + 1 := by omega
        have hp2 : ¬ (j : Int) + 1 < 0 := by omega
        have hp3 : (j : Int) + 1 ≤ s.length := by omega
        have hp4 : ((j : Int) + 1).toNat = j + 1 := by omega
        go_wp2_with fail
        refine (hgj _).mono ?_
        rintro e w1 ⟨rfl, rfl⟩
        go_wp2
        exact bodyPost_ret (v := .tuple #[.agg #[.int .i64 5, .int .i64 0, tx r, .bool false, .int .i64 0, .int .i64 0], .int .i64 ((j + 1 : Nat) : Int)]) (by simp [results, Tryz.results31, go_sem]) rfl ⟨by rw [rt_of HR.out]; rfl, bal (Below.refl _ _) _⟩
      | false =>
        have HR : Hid (sgF s j = tkSg s) := by show _ = _; rw [← HJ.out, sgF, if_neg (by simp [hc])]
        rw [hc] at hgj
        clear HJ HS hc hex hg
        generalize s.take (j + 1) = r at *
        have hp1 : (0 : Int) < (j : Int) + 1 := by omega
        have hp2 : ¬ (j : Int) + 1 < 0 := by omega
        have hp3 : (j : Int) + 1 ≤ s.length := by omega
        have hp4 : ((j : Int) + 1).toNat = j + 1 := by omega
        go_wp2_with fail
        refine (hgj _).mono ?_
        rintro e w1 ⟨rfl, rfl⟩
        go_wp2
        go_round
        case rel => exact ⟨j, by omega, by omega, by go_num, HR⟩
        case measure => simp [intOf]
end Go.Proofs.YtajbjbnfklllkaaGreatDoor
