/- amount, first: each for every argument. -/
import Derived.Test.YtajbjbnfklllkaaGreatDoorXText
namespace Go.Proofs.YtajbjbnfklllkaaGreatDoor
open Go.RowKit

theorem take_t {s : Str} {k : Nat} (h : (s.drop k).head? = some 116) : s.take (k + 1) = s.take k ++ [116] ∧ k + 1 ≤ s.length := by
  have hk : k < s.length := by
    by_cases hk : k < s.length
    · exact hk
    · rw [List.drop_of_length_le (by omega)] at h; cases h
  rw [List.drop_eq_getElem_cons hk] at h
  have e : s[k] = 116 := Option.some.inj h
  exact ⟨by rw [take_snocB s k hk, e], by omega⟩
set_option maxHeartbeats 1000000 in
theorem amount_any (s : Str) (w : World) (hs : s.length ≤ 1000) (he : Ev w) : Calls Tryz.prog 26 #[tx s] w fun e w' => e = .returned (rt (tkAmt s)) ∧ Below w.heap.size w w' := by
  have hb0 : Below w.heap.size w (w.alloc (.cells #[.int .i64 0, .int .i64 0, .string ⟨#[]⟩, .bool false, .int .i64 0, .int .i64 0] 36)) := bal (Below.refl _ _) _
  have hx := BoxT.new0 w
  have he0 := he.later hb0
  have hr := fun W => runD_any s W (by omega)
  have hgl := dgN_le s
  have hex1 : (⟨s.toArray⟩ : ByteArray).extract (dgN s) s.length = ⟨(s.drop (dgN s)).toArray⟩ := ex_tail s (dgN s)
  have hp := fun W => hasPrefix_any (s.drop (dgN s)) 116 W
  by_cases ht : (s.drop (dgN s)).head? = some 116
  · obtain ⟨t1, t2⟩ := take_t ht
    rw [decide_eq_true ht] at hp
    have hex2 : (⟨s.toArray⟩ : ByteArray).extract 0 (dgN s + 1) = ⟨(s.take (dgN s) ++ [116]).toArray⟩ := by rw [Fx.ba_take, t1]
    have hd := duration_any (s.take (dgN s)) (w.alloc (.cells #[.int .i64 0, .int .i64 0, .string ⟨#[]⟩, .bool false, .int .i64 0, .int .i64 0] 36)) (by simp; omega) he0
    have HR : Hid (tkAmt s = tkDur (s.take (dgN s))) := by show _ = _; unfold tkAmt; rw [if_pos ht]
    rw [HR.out]
    clear HR ht t1
    generalize tkDur (s.take (dgN s)) = o at *
    obtain ⟨u, hu⟩ : ∃ u, u = s.take (dgN s) ++ [116] := ⟨_, rfl⟩
    rw [← hu] at hex2 hd
    clear hu
    generalize s.drop (dgN s) = r at *
    generalize dgN s = k at *
    have k1 : (k : Int) ≤ s.length := by omega
    have k2 : (k : Int) + 1 ≤ s.length := by omega
    have k3 : ((k : Int) + 1).toNat = k + 1 := by omega
    have k4 : ¬ (k : Int) + 1 < 0 := by omega
    go_enter Tryz.func26, Tryz.ntmps26
    go_wp2_with fail
    refine (hr _).mono ?_
    rintro e w1 ⟨rfl, rfl⟩
    go_wp2_with fail
    refine (hp _).mono ?_
    rintro e w1 ⟨rfl, rfl⟩
    go_wp2_with fail
    refine hd.mono ?_
    rintro e w1 ⟨rfl, hb1⟩
    obtain ⟨c0, c1, c2, c3, c4, c5, f0, f1, f2, f3, f4, f5⟩ := hx.later hb1
    go_wp2
    exact bodyPost_ret (v := rt o) (by simp [results, Tryz.results26, go_sem, c0, c1, c2, c3, c4, c5]) rfl ⟨rfl, below6 (Below.chain hb0 hb1) (Nat.le_refl _) _ _ _ _ _ _⟩
  · rw [decide_eq_false ht] at hp
    have hdl := decN_le (s.drop (dgN s))
    have hdc := fun W => decimals_any (s.drop (dgN s)) W (by simp; omega)
    rw [List.length_drop] at hdl
    have hex2 : (⟨s.toArray⟩ : ByteArray).extract 0 (dgN s + decN (s.drop (dgN s))) = ⟨(s.take (dgN s + decN (s.drop (dgN s)))).toArray⟩ := Fx.ba_take s _
    have hd := number_any (s.take (dgN s + decN (s.drop (dgN s)))) (w.alloc (.cells #[.int .i64 0, .int .i64 0, .string ⟨#[]⟩, .bool false, .int .i64 0, .int .i64 0] 36)) (by simp; omega)
    have HR : Hid (tkAmt s = tkNum (s.take (dgN s + decN (s.drop (dgN s))))) := by show _ = _; unfold tkAmt; rw [if_neg ht]
    rw [HR.out]
    clear HR ht
    generalize tkNum (s.take (dgN s + decN (s.drop (dgN s)))) = o at *
    generalize s.take (dgN s + decN (s.drop (dgN s))) = u at *
    generalize decN (s.drop (dgN s)) = d at *
    generalize s.drop (dgN s) = r at *
    generalize dgN s = k at *
    have k1 : (k : Int) ≤ s.length := by omega
    have k2 : (k : Int) + d ≤ s.length := by omega
    have k3 : ((k : Int) + d).toNat = k + d := by omega
    have k4 : ¬ (k : Int) + d < 0 := by omega
    go_enter Tryz.func26, Tryz.ntmps26
    go_wp2_with fail
    refine (hr _).mono ?_
    rintro e w1 ⟨rfl, rfl⟩
    go_wp2_with fail
    refine (hp _).mono ?_
    rintro e w1 ⟨rfl, rfl⟩
    go_wp2_with fail
    refine (hdc _).mono ?_
    rintro e w1 ⟨rfl, rfl⟩
    go_wp2_with fail
    refine hd.mono ?_
    rintro e w1 ⟨rfl, hb1⟩
    obtain ⟨c0, c1, c2, c3, c4, c5, f0, f1, f2, f3, f4, f5⟩ := hx.later hb1
    go_wp2
    exact bodyPost_ret (v := rt o) (by simp [results, Tryz.results26, go_sem, c0, c1, c2, c3, c4, c5]) rfl ⟨rfl, below6 (Below.chain hb0 hb1) (Nat.le_refl _) _ _ _ _ _ _⟩
theorem headD_at {s : Str} (h : 0 < s.length) : s.headD 0 = (⟨s.toArray⟩ : ByteArray)[0]'(ba_lt h) := by
  cases s with
  | nil => simp at h
  | cons c r => rfl
set_option maxHeartbeats 1000000 in
theorem first_any (s : Str) (w : World) (hs : s.length ≤ 1000) (hpos : 0 < s.length) (he : Ev w) : Calls Tryz.prog 19 #[tx s] w fun e w' => e = .returned (rt (tok s)) ∧ Below w.heap.size w w' := by
  have hb0 : Below w.heap.size w (w.alloc (.cells #[.int .i64 0, .int .i64 0, .string ⟨#[]⟩, .bool false, .int .i64 0, .int .i64 0] 36)) := bal (Below.refl _ _) _
  have hx := BoxT.new0 w
  have he0 := he.later hb0
  have hbk := ba_lt hpos
  have hd := fun W => xDigit_any ((⟨s.toArray⟩ : ByteArray)[0]'hbk) W
  have hn := fun W => xName_any ((⟨s.toArray⟩ : ByteArray)[0]'hbk) W
  have hne : s ≠ [] := List.length_pos_iff.1 hpos
  have HH := headD_at hpos
  cases hdc : digB ((⟨s.toArray⟩ : ByteArray)[0]'hbk) with
  | true =>
    rw [hdc] at hd
    have ha := amount_any s (w.alloc (.cells #[.int .i64 0, .int .i64 0, .string ⟨#[]⟩, .bool false, .int .i64 0, .int .i64 0] 36)) hs he0
    have HR : Hid (tok s = tkAmt s) := by show _ = _; unfold tok; rw [if_pos (by rw [HH]; exact hdc)]
    rw [HR.out]
    clear HR HH hdc hn hne
    generalize tkAmt s = o at *
    go_enter Tryz.func19, Tryz.ntmps19
    go_wp2_with fail
    refine (hd _).mono ?_
    rintro e w1 ⟨rfl, rfl⟩
    go_wp2_with fail
    refine ha.mono ?_
    rintro e w1 ⟨rfl, hb1⟩
    obtain ⟨c0, c1, c2, c3, c4, c5, f0, f1, f2, f3, f4, f5⟩ := hx.later hb1
    go_wp2
    exact bodyPost_ret (v := rt o) (by simp [results, Tryz.results19, go_sem, c0, c1, c2, c3, c4, c5]) rfl ⟨rfl, below6 (Below.chain hb0 hb1) (Nat.le_refl _) _ _ _ _ _ _⟩
  | false =>
    rw [hdc] at hd
    cases hnc : nameCh ((⟨s.toArray⟩ : ByteArray)[0]'hbk) with
    | true =>
      rw [hnc] at hn
      have hrn := fun W => runN_any s W (by omega)
      have hil := idN_le s
      have hex : (⟨s.toArray⟩ : ByteArray).extract 0 (idN s) = ⟨(s.take (idN s)).toArray⟩ := Fx.ba_take s _
      have ha := identifier_any (s.take (idN s)) (w.alloc (.cells #[.int .i64 0, .int .i64 0, .string ⟨#[]⟩, .bool false, .int .i64 0, .int .i64 0] 36)) (by simp; omega)
      have HR : Hid (tok s = tkId (s.take (idN s))) := by show _ = _; unfold tok; rw [if_neg (by rw [HH, hdc]; simp), if_pos (by rw [HH]; exact hnc)]
      rw [HR.out]
      clear HR HH hdc hnc hne
      generalize tkId (s.take (idN s)) = o at *
      generalize s.take (idN s) = u at *
      generalize idN s = k at *
      have k1 : (k : Int) ≤ s.length := by omega
      go_enter Tryz.func19, Tryz.ntmps19
      go_wp2_with fail
      refine (hd _).mono ?_
      rintro e w1 ⟨rfl, rfl⟩
      go_wp2_with fail
      refine (hn _).mono ?_
      rintro e w1 ⟨rfl, rfl⟩
      go_wp2_with fail
      refine (hrn _).mono ?_
      rintro e w1 ⟨rfl, rfl⟩
      go_wp2_with fail
      refine ha.mono ?_
      rintro e w1 ⟨rfl, hb1⟩
      obtain ⟨c0, c1, c2, c3, c4, c5, f0, f1, f2, f3, f4, f5⟩ := hx.later hb1
      go_wp2
      exact bodyPost_ret (v := rt o) (by simp [results, Tryz.results19, go_sem, c0, c1, c2, c3, c4, c5]) rfl ⟨rfl, below6 (Below.chain hb0 hb1) (Nat.le_refl _) _ _ _ _ _ _⟩
    | false =>
      rw [hnc] at hn
      by_cases hq : ((((⟨s.toArray⟩ : ByteArray)[0]'hbk)).toNat : Int) = 34
      · have hq' : (((((⟨s.toArray⟩ : ByteArray)[0]'hbk)).toNat : Int) == 34) = true := beq_iff_eq.2 hq
        have ha := text_any s (w.alloc (.cells #[.int .i64 0, .int .i64 0, .string ⟨#[]⟩, .bool false, .int .i64 0, .int .i64 0] 36)) hs hpos
        have HR : Hid (tok s = tkTx s) := by show _ = _; unfold tok; rw [if_neg (by rw [HH, hdc]; simp), if_neg (by rw [HH, hnc]; simp), if_pos (by rw [HH]; exact byte_eq (k := 34) (by decide) hq)]
        rw [HR.out]
        clear HR HH hdc hnc hne hq
        generalize tkTx s = o at *
        go_enter Tryz.func19, Tryz.ntmps19
        go_wp2_with fail
        refine (hd _).mono ?_
        rintro e w1 ⟨rfl, rfl⟩
        go_wp2_with fail
        refine (hn _).mono ?_
        rintro e w1 ⟨rfl, rfl⟩
        go_wp2_with fail
        refine ha.mono ?_
        rintro e w1 ⟨rfl, hb1⟩
        obtain ⟨c0, c1, c2, c3, c4, c5, f0, f1, f2, f3, f4, f5⟩ := hx.later hb1
        go_wp2
        exact bodyPost_ret (v := rt o) (by simp [results, Tryz.results19, go_sem, c0, c1, c2, c3, c4, c5]) rfl ⟨rfl, below6 (Below.chain hb0 hb1) (Nat.le_refl _) _ _ _ _ _ _⟩
      · have hq' : (((((⟨s.toArray⟩ : ByteArray)[0]'hbk)).toNat : Int) == 34) = false := beq_eq_false_iff_ne.2 hq
        have ha := sign_any s (w.alloc (.cells #[.int .i64 0, .int .i64 0, .string ⟨#[]⟩, .bool false, .int .i64 0, .int .i64 0] 36)) hs hne
        have HR : Hid (tok s = tkSg s) := by show _ = _; unfold tok; rw [if_neg (by rw [HH, hdc]; simp), if_neg (by rw [HH, hnc]; simp), if_neg (by rw [HH]; exact byte_ne (k := 34) (by decide) hq)]
        rw [HR.out]
        clear HR HH hdc hnc hne hq
        generalize tkSg s = o at *
        go_enter Tryz.func19, Tryz.ntmps19
        go_wp2_with fail
        refine (hd _).mono ?_
        rintro e w1 ⟨rfl, rfl⟩
        go_wp2_with fail
        refine (hn _).mono ?_
        rintro e w1 ⟨rfl, rfl⟩
        go_wp2_with fail
        refine ha.mono ?_
        rintro e w1 ⟨rfl, hb1⟩
        obtain ⟨c0, c1, c2, c3, c4, c5, f0, f1, f2, f3, f4, f5⟩ := hx.later hb1
        go_wp2
        exact bodyPost_ret (v := rt o) (by simp [results, Tryz.results19, go_sem, c0, c1, c2, c3, c4, c5]) rfl ⟨rfl, below6 (Below.chain hb0 hb1) (Nat.le_refl _) _ _ _ _ _ _⟩
end Go.Proofs.YtajbjbnfklllkaaGreatDoor
