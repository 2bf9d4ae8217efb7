/- SeriesOver: the samples are taken. -/
import Derived.Test.YtjgckfcocmhnhaaGreatDoorSOvQ
import Derived.Test.YtjgckfcocmhnhaaGreatDoorSApI
namespace Go.Proofs.YtjgckfcocmhnhaaGreatDoor.Sr
open Go.RowKit Rn

theorem r64_at {v : List (Bool × Int)} (h : ∀ x ∈ v, -9223372036854775808 ≤ x.2 ∧ x.2 ≤ 9223372036854775807) (j : Nat) : R64 (v.getD j (false, 0)).2 := by
  rw [List.getD_eq_getElem?_getD]
  cases e : v[j]? with
  | none => exact r64_lit rfl
  | some x => exact h x (List.mem_of_getElem? e)
theorem o_over {w0 w : World} {sb : Nat} {tt k : Int} {l A : List Smp} {v : Value} (h : S2 w0 w sb tt [(oq, l)] v oq) (hwd : wd k = k) (hA : addAll k tt [] l = A) (name : Value) (a1 : Bool) (a2 : Int) (a3 : Bool)
    (ht : ∀ rb W, St W rb A k tt → Calls Tryz.prog 55 #[pv rb k tt, name] W fun e w' => e = .returned (.tuple #[.agg #[.bool a1, .int .i64 a2], .bool a3]) ∧ Below W.heap.size W w') :
    Calls Tryz.prog 21 #[.pointer (some ⟨sb, 0, none⟩), v, name, .int .i64 k] w fun e w' => e = .returned (.tuple #[.agg #[.bool a1, .int .i64 a2], .bool a3]) ∧ Below w.heap.size w w' :=
  s2_over h name a1 a2 a3 k (by rw [hwd, oq_smp, hA]; exact ht)
theorem o_window {w0 w : World} {sb : Nat} {tt k : Int} {l A : List Smp} {v : Value} (h : S2 w0 w sb tt [(oq, l)] v oq) (hwd : wd k = k) (hA : addAll k tt [] l = A) :
    Calls Tryz.prog 20 #[.pointer (some ⟨sb, 0, none⟩), v, .int .i64 k] w fun e w' => ∃ u, e = .returned u ∧ Own w' w.heap.size u A ∧ Below w.heap.size w w' := by
  have := s2_window h k
  rw [hwd, oq_smp, hA] at this
  exact this
/-- A number in a block of its own. -/
def Bx (w : World) (x : Nat) (o : Bool) (n : Int) : Prop := w.cell? ⟨x, 0, none⟩ = some (.bool o) ∧ w.cell? ⟨x, 1, none⟩ = some (.int .i64 n)
theorem Bx.later {w w' : World} {x : Nat} {o : Bool} {n : Int} (h : Bx w x o n) (hb : Below w.heap.size w w') : Bx w' x o n :=
  ⟨(hb.cell (p := ⟨x, 0, none⟩) (World.block_lt_of_cell? _ _ h.1)).trans h.1, (hb.cell (p := ⟨x, 1, none⟩) (World.block_lt_of_cell? _ _ h.2)).trans h.2⟩
theorem Bx.new (w : World) (o : Bool) (n : Int) : Bx (w.alloc (.cells #[.bool o, .int .i64 n] 33)) w.heap.size o n := by
  constructor <;> simp [go_sem]
set_option maxHeartbeats 8000000 in
set_option maxRecDepth 100000 in
theorem over_any (xa : Option Addr) (len cap : Nat) (v : List (Bool × Int)) (ya : Option Addr) (gn gc : Nat) (g : List Nat) (d : Nat) (w : World) (_hm : len ≤ maxLen) (_hm2 : gn ≤ maxLen) (hd255 : d ≤ 255) (hs : Ns w xa len v) (hv : ∀ x ∈ v, -9223372036854775808 ≤ x.2 ∧ x.2 ≤ 9223372036854775807)
    (hg : Ik w .u8 ya gn g) (hg255 : ∀ x ∈ g, x ≤ 255) : Calls Tryz.prog 5 #[.slice xa len cap, .slice ya gn gc, .int .u8 d] w fun e w' => e = .returned (.bool true) ∧ Below w.heap.size w w' := by
  go_enter Tryz.func5, Tryz.ntmps5
  go_wp2_with fail
  refine (known_any _).mono ?_
  rintro e w1 ⟨rfl, hb1⟩
  by_cases h0 : len = 0
  · subst h0
    go_wp2
    all_goals
      go_ret
      exact ⟨rfl, hb1⟩
  · have d0 : decide ((len : Int) = 0) = false := decide_eq_false (by omega)
    have d0' : ((len : Int) == 0) = false := beq_false_of_ne (by omega)
    by_cases h40 : 40 < len
    · have hd : decide (40 < (len : Int)) = true := decide_eq_true (by omega)
      go_wp2
      all_goals
        go_ret
        exact ⟨rfl, hb1⟩
    · have hd : decide (40 < (len : Int)) = false := decide_eq_false (by omega)
      by_cases hgl : gn < len
      · have hd2 : decide ((gn : Int) < (len : Int)) = true := decide_eq_true (by omega)
        go_wp2
        all_goals
          go_ret
          exact ⟨rfl, hb1⟩
      · have hd2 : decide ((gn : Int) < (len : Int)) = false := decide_eq_false (by omega)
        go_wp2_with fail
        refine (new_s2 w w1 hb1).mono ?_
        rintro e w2 ⟨rfl, h2⟩
        clear hb1
        generalize w1.heap.size = sb at *
        have h3 : S2 w _ sb 0 [] _ oq := h2.with _ (set_one w2 [97] [98]) (bal (Below.refl _ _) _) (own_new _ 1 1)
        clear h2
        go_upto_region 9 with fail
        generalize w2.heap.size = lb at *
        generalize w2.alloc (.cells #[Lb.tx [97], Lb.tx [98]] 45) = w3 at *
        go_loopw [9, 10] (fun t x wr => ∃ (i : Nat) (tt : Int) (L : HL), i ≤ len ∧ x = .int .i64 i ∧ t = .int .i64 tt ∧ 0 ≤ tt ∧ tt ≤ 4 * i ∧ O0 i tt L ∧ Hid (S2 w wr sb tt L (.slice (some ⟨lb, 0, none⟩) 1 1) oq)) (fun _ x _ => len - (intOf x).toNat)
        case atStart => exact ⟨0, 0, [], by omega, rfl, rfl, by omega, by omega, Or.inl ⟨rfl, rfl, rfl⟩, h3⟩
        case round =>
          obtain ⟨i, tt, L, hik, rfl, rfl, ht0, ht4, ho, hst⟩ := hrel
          clear h3
          by_cases hlt : i < len
          · have hd3 : decide ((i : Int) < (len : Int)) = true := decide_eq_true (by omega)
            obtain ⟨b, off, rfl, hcb⟩ := hg.read (by omega)
            have hx := hcb wr hst.out.b i (by omega)
            have hx255 := getD_le hg255 i
            obtain ⟨vb, vo, rfl, hvc⟩ := hs.2 (by omega)
            obtain ⟨v0, v1⟩ := hvc i hlt
            have HV : Hid (∀ W, Below w.heap.size w W → W.cell? ⟨vb, vo + i * 2, none⟩ = some (.bool (v.getD i (false, 0)).1) ∧ W.cell? ⟨vb, vo + i * 2 + 1, none⟩ = some (.int .i64 (v.getD i (false, 0)).2)) := fun W hW => ⟨(hW.cell (World.block_lt_of_cell? _ _ v0)).trans v0, (hW.cell (World.block_lt_of_cell? _ _ v1)).trans v1⟩
            have hvr := r64_at hv i
            clear v0 v1 hvc hcb
            generalize g.getD i 0 = x at *
            generalize v.getD i (false, 0) = y at *
            obtain ⟨yo, yn⟩ := y
            dsimp only at *
            obtain ⟨n, hn, hn0⟩ : ∃ n : Int, n = tt + (x : Int) % 4 + 1 ∧ tt < n ∧ n ≤ tt + 4 := ⟨_, rfl, by omega, by omega⟩
            obtain ⟨L1, e1, e2, L2, e3, ho2⟩ := ho.step ht0 hn0.1 hn0.2 (yo, yn)
            have hon : onw tt n = n := by unfold onw; omega
            have hadv := s2_advK hst.out n hon e1
            have HE2 : Hid _ := e2
            have HE3 : Hid _ := e3
            have hw1 : wrap64 (tt + (x : Int) % 4) = tt + (x : Int) % 4 := by unfold wrap64; omega
            have hw2 : wrap64 (tt + (x : Int) % 4 + 1) = n := by rw [← hn]; unfold wrap64; omega
            clear hst e1 e2 e3 hon ho
            go_upto_region 12 with fail
            rw [← hn]
            clear hw1 hw2 hx hn
            go_wp2_with fail
            refine hadv.mono ?_
            rintro e w4 ⟨rfl, h4⟩
            clear hadv
            obtain ⟨v0, v1⟩ := HV.out w4 h4.b
            have hadd := s2_addK h4 oq_fit (n, yo, yn) hvr HE2.out HE3.out
            clear h4
            go_wp2_with fail
            refine hadd.mono ?_
            rintro e w5 ⟨rfl, h5⟩
            have HS5 : Hid _ := h5
            clear hadd v0 v1 h5
            go_wp2
            go_roundw
            case rel => exact ⟨i + 1, n, L2, by omega, by go_num, rfl, by omega, by omega, ho2, HS5.out⟩
            case measure => simp [intOf]; omega
          · obtain rfl : i = len := by omega
            have hd3 : decide ((i : Int) < (i : Int)) = false := decide_eq_false (by omega)
            obtain ⟨l, rfl, hl⟩ : ∃ l, L = [(oq, l)] ∧ O1 tt l := by
              rcases ho with ⟨e, _⟩ | h
              · omega
              · exact h
            have h4 : S2 w wr sb tt [(oq, l)] _ oq := hst.out
            clear hst ho
            obtain ⟨k, hk, hk1⟩ : ∃ k : Int, k = (d : Int) % 100 + 1 ∧ 1 ≤ k ∧ k ≤ 100 := ⟨_, rfl, by omega, by omega⟩
            have hwd : wd k = k := by unfold wd; omega
            have hA := hl.win (k := k) (by omega) (by omega)
            go_upto_region 16 with fail
            rw [← hk]
            clear hk
            obtain ⟨A, hAA⟩ : ∃ A, addAll k tt [] l = A := ⟨_, rfl⟩
            rw [hAA] at hA
            clear hl
            go_wp2_with fail
            refine (o_window h4 hwd hAA).mono ?_
            rintro e u0 ⟨wv, rfl, hown, hb0⟩
            have h5 := h4.later hb0
            clear h4 hb0
            obtain ⟨ua, uc, rfl, hms⟩ := hown.slice
            have HMS : Hid (∀ W, Below u0.heap.size u0 W → Rn.Ms W ua A.length A) := fun W hW => hms.later hW
            clear hms hown
            have B0 : Hid (Below u0.heap.size u0 u0) := Below.refl _ _
            obtain ⟨o0, ho0⟩ : ∃ o, o = ov (fSum (cnts (vls A))) := ⟨_, rfl⟩
            obtain ⟨n0, hn0⟩ : ∃ n, n = nn (fSum (cnts (vls A))) := ⟨_, rfl⟩
            obtain ⟨z0, hz0⟩ : ∃ z : Bool, z = decide (0 < A.length) := ⟨_, rfl⟩
            have ht0 := o_over h5 hwd hAA (.string ⟨#[115, 117, 109]⟩) _ _ _ (fun rb W hW => tell_sum rb A k tt W hW)
            rw [← ho0, ← hn0, ← hz0] at ht0
            have HZ0 : Hid _ := hz0
            have HO0 : Hid _ := ho0
            have HN0 : Hid _ := hn0
            clear ho0 hn0 hz0
            go_wp2_with fail
            refine ht0.mono ?_
            rintro e v0 ⟨rfl, hb0⟩
            clear ht0
            go_upto_region 18 with fail
            have hc0 := Below.chain hb0 (bal (Below.refl v0.heap.size v0) (.cells #[.bool o0, .int .i64 n0] 33))
            have h6 := h5.later hc0
            have hx0 : Hid (Bx (v0.alloc (.cells #[.bool o0, .int .i64 n0] 33)) v0.heap.size o0 n0) := Bx.new _ _ _
            have B1 : Hid (Below u0.heap.size u0 (v0.alloc (.cells #[.bool o0, .int .i64 n0] 33))) := Below.chain B0.out hc0
            clear hb0 hc0 h5 B0
            generalize v0.heap.size = x0 at *
            generalize v0.alloc (.cells #[.bool o0, .int .i64 n0] 33) = u1 at *
            obtain ⟨o1, ho1⟩ : ∃ o, o = (avgT A).1 := ⟨_, rfl⟩
            obtain ⟨n1, hn1⟩ : ∃ n, n = (avgT A).2.1 := ⟨_, rfl⟩
            obtain ⟨z1, hz1⟩ : ∃ z : Bool, z = (avgT A).2.2 := ⟨_, rfl⟩
            have ht1 := o_over h6 hwd hAA (.string ⟨#[97, 118, 103]⟩) _ _ _ (fun rb W hW => tell_avg rb A k tt W hW)
            rw [← ho1, ← hn1, ← hz1] at ht1
            have HZ1 : Hid _ := hz1
            have HO1 : Hid _ := ho1
            have HN1 : Hid _ := hn1
            clear ho1 hn1 hz1
            go_wp2_with fail
            refine ht1.mono ?_
            rintro e v1 ⟨rfl, hb1⟩
            clear ht1
            go_upto_region 19 with fail
            have hc1 := Below.chain hb1 (bal (Below.refl v1.heap.size v1) (.cells #[.bool o1, .int .i64 n1] 33))
            have h7 := h6.later hc1
            have hx1 : Hid (Bx (v1.alloc (.cells #[.bool o1, .int .i64 n1] 33)) v1.heap.size o1 n1) := Bx.new _ _ _
            have B2 : Hid (Below u0.heap.size u0 (v1.alloc (.cells #[.bool o1, .int .i64 n1] 33))) := Below.chain B1.out hc1
            have hx0 : Hid (Bx (v1.alloc (.cells #[.bool o1, .int .i64 n1] 33)) x0 o0 n0) := Bx.later hx0.out hc1
            clear hb1 hc1 h6 B1
            generalize v1.heap.size = x1 at *
            generalize v1.alloc (.cells #[.bool o1, .int .i64 n1] 33) = u2 at *
            obtain ⟨o2, ho2⟩ : ∃ o, o = (Ex.bst false (addAll k tt [] A)).2.1 := ⟨_, rfl⟩
            obtain ⟨n2, hn2⟩ : ∃ n, n = (Ex.bst false (addAll k tt [] A)).2.2 := ⟨_, rfl⟩
            obtain ⟨z2, hz2⟩ : ∃ z : Bool, z = (!(addAll k tt [] A).isEmpty) := ⟨_, rfl⟩
            have ht2 := o_over h7 hwd hAA (.string ⟨#[109, 105, 110]⟩) _ _ _ (fun rb W hW => tell_min rb A k tt W hW)
            rw [← ho2, ← hn2, ← hz2] at ht2
            have HZ2 : Hid _ := hz2
            have HO2 : Hid _ := ho2
            have HN2 : Hid _ := hn2
            clear ho2 hn2 hz2
            go_wp2_with fail
            refine ht2.mono ?_
            rintro e v2 ⟨rfl, hb2⟩
            clear ht2
            go_upto_region 20 with fail
            have hc2 := Below.chain hb2 (bal (Below.refl v2.heap.size v2) (.cells #[.bool o2, .int .i64 n2] 33))
            have h8 := h7.later hc2
            have hx2 : Hid (Bx (v2.alloc (.cells #[.bool o2, .int .i64 n2] 33)) v2.heap.size o2 n2) := Bx.new _ _ _
            have B3 : Hid (Below u0.heap.size u0 (v2.alloc (.cells #[.bool o2, .int .i64 n2] 33))) := Below.chain B2.out hc2
            have hx0 : Hid (Bx (v2.alloc (.cells #[.bool o2, .int .i64 n2] 33)) x0 o0 n0) := Bx.later hx0.out hc2
            have hx1 : Hid (Bx (v2.alloc (.cells #[.bool o2, .int .i64 n2] 33)) x1 o1 n1) := Bx.later hx1.out hc2
            clear hb2 hc2 h7 B2
            generalize v2.heap.size = x2 at *
            generalize v2.alloc (.cells #[.bool o2, .int .i64 n2] 33) = u3 at *
            obtain ⟨o3, ho3⟩ : ∃ o, o = (Ex.bst true (addAll k tt [] A)).2.1 := ⟨_, rfl⟩
            obtain ⟨n3, hn3⟩ : ∃ n, n = (Ex.bst true (addAll k tt [] A)).2.2 := ⟨_, rfl⟩
            obtain ⟨z3, hz3⟩ : ∃ z : Bool, z = (!(addAll k tt [] A).isEmpty) := ⟨_, rfl⟩
            have ht3 := o_over h8 hwd hAA (.string ⟨#[109, 97, 120]⟩) _ _ _ (fun rb W hW => tell_max rb A k tt W hW)
            rw [← ho3, ← hn3, ← hz3] at ht3
            have HZ3 : Hid _ := hz3
            have HO3 : Hid _ := ho3
            have HN3 : Hid _ := hn3
            clear ho3 hn3 hz3
            go_wp2_with fail
            refine ht3.mono ?_
            rintro e v3 ⟨rfl, hb3⟩
            clear ht3
            go_upto_region 21 with fail
            have hc3 := Below.chain hb3 (bal (Below.refl v3.heap.size v3) (.cells #[.bool o3, .int .i64 n3] 33))
            have h9 := h8.later hc3
            have hx3 : Hid (Bx (v3.alloc (.cells #[.bool o3, .int .i64 n3] 33)) v3.heap.size o3 n3) := Bx.new _ _ _
            have B4 : Hid (Below u0.heap.size u0 (v3.alloc (.cells #[.bool o3, .int .i64 n3] 33))) := Below.chain B3.out hc3
            have hx0 : Hid (Bx (v3.alloc (.cells #[.bool o3, .int .i64 n3] 33)) x0 o0 n0) := Bx.later hx0.out hc3
            have hx1 : Hid (Bx (v3.alloc (.cells #[.bool o3, .int .i64 n3] 33)) x1 o1 n1) := Bx.later hx1.out hc3
            have hx2 : Hid (Bx (v3.alloc (.cells #[.bool o3, .int .i64 n3] 33)) x2 o2 n2) := Bx.later hx2.out hc3
            clear hb3 hc3 h8 B3
            generalize v3.heap.size = x3 at *
            generalize v3.alloc (.cells #[.bool o3, .int .i64 n3] 33) = u4 at *
            obtain ⟨o4, ho4⟩ : ∃ o, o = ov (fOf A.length) := ⟨_, rfl⟩
            obtain ⟨n4, hn4⟩ : ∃ n, n = nn (fOf A.length) := ⟨_, rfl⟩
            obtain ⟨z4, hz4⟩ : ∃ z : Bool, z = decide (0 < A.length) := ⟨_, rfl⟩
            have ht4 := o_over h9 hwd hAA (.string ⟨#[99, 111, 117, 110, 116]⟩) _ _ _ (fun rb W hW => tell_count rb A k tt W hW)
            rw [← ho4, ← hn4, ← hz4] at ht4
            have HZ4 : Hid _ := hz4
            have HO4 : Hid _ := ho4
            have HN4 : Hid _ := hn4
            clear ho4 hn4 hz4
            go_wp2_with fail
            refine ht4.mono ?_
            rintro e v4 ⟨rfl, hb4⟩
            clear ht4
            go_upto_region 22 with fail
            have hc4 := Below.chain hb4 (bal (Below.refl v4.heap.size v4) (.cells #[.bool o4, .int .i64 n4] 33))
            have h10 := h9.later hc4
            have hx4 : Hid (Bx (v4.alloc (.cells #[.bool o4, .int .i64 n4] 33)) v4.heap.size o4 n4) := Bx.new _ _ _
            have B5 : Hid (Below u0.heap.size u0 (v4.alloc (.cells #[.bool o4, .int .i64 n4] 33))) := Below.chain B4.out hc4
            have hx0 : Hid (Bx (v4.alloc (.cells #[.bool o4, .int .i64 n4] 33)) x0 o0 n0) := Bx.later hx0.out hc4
            have hx1 : Hid (Bx (v4.alloc (.cells #[.bool o4, .int .i64 n4] 33)) x1 o1 n1) := Bx.later hx1.out hc4
            have hx2 : Hid (Bx (v4.alloc (.cells #[.bool o4, .int .i64 n4] 33)) x2 o2 n2) := Bx.later hx2.out hc4
            have hx3 : Hid (Bx (v4.alloc (.cells #[.bool o4, .int .i64 n4] 33)) x3 o3 n3) := Bx.later hx3.out hc4
            clear hb4 hc4 h9 B4
            generalize v4.heap.size = x4 at *
            generalize v4.alloc (.cells #[.bool o4, .int .i64 n4] 33) = u5 at *
            obtain ⟨o5, ho5⟩ : ∃ o, o = (lst A).2.1 := ⟨_, rfl⟩
            obtain ⟨n5, hn5⟩ : ∃ n, n = (lst A).2.2 := ⟨_, rfl⟩
            obtain ⟨z5, hz5⟩ : ∃ z : Bool, z = (!A.isEmpty) := ⟨_, rfl⟩
            have ht5 := o_over h10 hwd hAA (.string ⟨#[108, 97, 115, 116]⟩) _ _ _ (fun rb W hW => tell_last rb A k tt W hW)
            rw [← ho5, ← hn5, ← hz5] at ht5
            have HZ5 : Hid _ := hz5
            have HO5 : Hid _ := ho5
            have HN5 : Hid _ := hn5
            clear ho5 hn5 hz5
            go_wp2_with fail
            refine ht5.mono ?_
            rintro e v5 ⟨rfl, hb5⟩
            clear ht5
            go_upto_region 23 with fail
            have hc5 := Below.chain hb5 (bal (Below.refl v5.heap.size v5) (.cells #[.bool o5, .int .i64 n5] 33))
            have h11 := h10.later hc5
            have hx5 : Hid (Bx (v5.alloc (.cells #[.bool o5, .int .i64 n5] 33)) v5.heap.size o5 n5) := Bx.new _ _ _
            have B6 : Hid (Below u0.heap.size u0 (v5.alloc (.cells #[.bool o5, .int .i64 n5] 33))) := Below.chain B5.out hc5
            have hx0 : Hid (Bx (v5.alloc (.cells #[.bool o5, .int .i64 n5] 33)) x0 o0 n0) := Bx.later hx0.out hc5
            have hx1 : Hid (Bx (v5.alloc (.cells #[.bool o5, .int .i64 n5] 33)) x1 o1 n1) := Bx.later hx1.out hc5
            have hx2 : Hid (Bx (v5.alloc (.cells #[.bool o5, .int .i64 n5] 33)) x2 o2 n2) := Bx.later hx2.out hc5
            have hx3 : Hid (Bx (v5.alloc (.cells #[.bool o5, .int .i64 n5] 33)) x3 o3 n3) := Bx.later hx3.out hc5
            have hx4 : Hid (Bx (v5.alloc (.cells #[.bool o5, .int .i64 n5] 33)) x4 o4 n4) := Bx.later hx4.out hc5
            clear hb5 hc5 h10 B5
            generalize v5.heap.size = x5 at *
            generalize v5.alloc (.cells #[.bool o5, .int .i64 n5] 33) = u6 at *
            obtain ⟨o6, ho6⟩ : ∃ o, o = (incT A).1 := ⟨_, rfl⟩
            obtain ⟨n6, hn6⟩ : ∃ n, n = (incT A).2.1 := ⟨_, rfl⟩
            obtain ⟨z6, hz6⟩ : ∃ z : Bool, z = (incT A).2.2 := ⟨_, rfl⟩
            have ht6 := o_over h11 hwd hAA (.string ⟨#[105, 110, 99, 114, 101, 97, 115, 101]⟩) _ _ _ (fun rb W hW => tell_increase rb A k tt W hW)
            rw [← ho6, ← hn6, ← hz6] at ht6
            have HZ6 : Hid _ := hz6
            have HO6 : Hid _ := ho6
            have HN6 : Hid _ := hn6
            clear ho6 hn6 hz6
            go_wp2_with fail
            refine ht6.mono ?_
            rintro e v6 ⟨rfl, hb6⟩
            clear ht6
            go_upto_region 24 with fail
            have hc6 := Below.chain hb6 (bal (Below.refl v6.heap.size v6) (.cells #[.bool o6, .int .i64 n6] 33))
            have h12 := h11.later hc6
            have hx6 : Hid (Bx (v6.alloc (.cells #[.bool o6, .int .i64 n6] 33)) v6.heap.size o6 n6) := Bx.new _ _ _
            have B7 : Hid (Below u0.heap.size u0 (v6.alloc (.cells #[.bool o6, .int .i64 n6] 33))) := Below.chain B6.out hc6
            have hx0 : Hid (Bx (v6.alloc (.cells #[.bool o6, .int .i64 n6] 33)) x0 o0 n0) := Bx.later hx0.out hc6
            have hx1 : Hid (Bx (v6.alloc (.cells #[.bool o6, .int .i64 n6] 33)) x1 o1 n1) := Bx.later hx1.out hc6
            have hx2 : Hid (Bx (v6.alloc (.cells #[.bool o6, .int .i64 n6] 33)) x2 o2 n2) := Bx.later hx2.out hc6
            have hx3 : Hid (Bx (v6.alloc (.cells #[.bool o6, .int .i64 n6] 33)) x3 o3 n3) := Bx.later hx3.out hc6
            have hx4 : Hid (Bx (v6.alloc (.cells #[.bool o6, .int .i64 n6] 33)) x4 o4 n4) := Bx.later hx4.out hc6
            have hx5 : Hid (Bx (v6.alloc (.cells #[.bool o6, .int .i64 n6] 33)) x5 o5 n5) := Bx.later hx5.out hc6
            clear hb6 hc6 h11 B6
            generalize v6.heap.size = x6 at *
            generalize v6.alloc (.cells #[.bool o6, .int .i64 n6] 33) = u7 at *
            obtain ⟨o7, ho7⟩ : ∃ o, o = (rteT A k).1 := ⟨_, rfl⟩
            obtain ⟨n7, hn7⟩ : ∃ n, n = (rteT A k).2.1 := ⟨_, rfl⟩
            obtain ⟨z7, hz7⟩ : ∃ z : Bool, z = (rteT A k).2.2 := ⟨_, rfl⟩
            have ht7 := o_over h12 hwd hAA (.string ⟨#[114, 97, 116, 101]⟩) _ _ _ (fun rb W hW => tell_rate rb A k tt W hW)
            rw [← ho7, ← hn7, ← hz7] at ht7
            have HZ7 : Hid _ := hz7
            have HO7 : Hid _ := ho7
            have HN7 : Hid _ := hn7
            clear ho7 hn7 hz7
            go_wp2_with fail
            refine ht7.mono ?_
            rintro e v7 ⟨rfl, hb7⟩
            clear ht7
            go_upto_region 25 with fail
            have hc7 := Below.chain hb7 (bal (Below.refl v7.heap.size v7) (.cells #[.bool o7, .int .i64 n7] 33))
            have h13 := h12.later hc7
            have hx7 : Hid (Bx (v7.alloc (.cells #[.bool o7, .int .i64 n7] 33)) v7.heap.size o7 n7) := Bx.new _ _ _
            have B8 : Hid (Below u0.heap.size u0 (v7.alloc (.cells #[.bool o7, .int .i64 n7] 33))) := Below.chain B7.out hc7
            have hx0 : Hid (Bx (v7.alloc (.cells #[.bool o7, .int .i64 n7] 33)) x0 o0 n0) := Bx.later hx0.out hc7
            have hx1 : Hid (Bx (v7.alloc (.cells #[.bool o7, .int .i64 n7] 33)) x1 o1 n1) := Bx.later hx1.out hc7
            have hx2 : Hid (Bx (v7.alloc (.cells #[.bool o7, .int .i64 n7] 33)) x2 o2 n2) := Bx.later hx2.out hc7
            have hx3 : Hid (Bx (v7.alloc (.cells #[.bool o7, .int .i64 n7] 33)) x3 o3 n3) := Bx.later hx3.out hc7
            have hx4 : Hid (Bx (v7.alloc (.cells #[.bool o7, .int .i64 n7] 33)) x4 o4 n4) := Bx.later hx4.out hc7
            have hx5 : Hid (Bx (v7.alloc (.cells #[.bool o7, .int .i64 n7] 33)) x5 o5 n5) := Bx.later hx5.out hc7
            have hx6 : Hid (Bx (v7.alloc (.cells #[.bool o7, .int .i64 n7] 33)) x6 o6 n6) := Bx.later hx6.out hc7
            clear hb7 hc7 h12 B7
            generalize v7.heap.size = x7 at *
            generalize v7.alloc (.cells #[.bool o7, .int .i64 n7] 33) = u8 at *
            have hrg := S2.rg h13
            have hle := S2.le h13
            have hbf := h13.b
            have hArg := addAll_rg (k := k) (now := tt) hrg
            have hBrg := addAll_rg (k := k) (now := tt) hArg
            have hAle := addAll_len k tt l []
            rw [hAA] at hArg hBrg hAle
            clear h13 hrg
            obtain ⟨p, hp⟩ : ∃ p, A.length = p + 1 := ⟨A.length - 1, by have := List.length_pos_iff.2 hA; omega⟩
            have hp100 : p + 1 ≤ 100 := by rw [List.length_nil] at hAle; omega
            obtain ⟨-, hmc⟩ := HMS.out u8 B8.out
            obtain ⟨qb, qo, rfl, hcell⟩ := hmc (by omega)
            obtain ⟨-, l1, l2⟩ := hcell p (by omega)
            have hlst : lst A = A.getD p s0 := by unfold lst; rw [hp, Nat.add_sub_cancel]
            rw [← hlst, ← HO5.out] at l1
            rw [← hlst, ← HN5.out] at l2
            clear hcell hmc hlst
            have hemp : A.isEmpty = false := by rw [← Bool.not_eq_true, List.isEmpty_iff]; exact hA
            have hof : ∀ W, Calls Tryz.prog 18 #[.int .i64 ((p : Int) + 1)] W fun e w' => e = .returned (.agg #[.bool o4, .int .i64 n4]) ∧ Below W.heap.size W w' := fun W => by
              have := of_any ((p : Int) + 1) W (by unfold R64; omega)
              rw [HO4.out, HN4.out, hp, show ((p + 1 : Nat) : Int) = (p : Int) + 1 by omega]
              exact this
            have c0 : cnt o0 n0 = fSum (cnts (vls A)) := by rw [HO0.out, HN0.out]; exact cnt_val (V.sum _)
            have c4 : cnt o4 n4 = fOf A.length := by rw [HO4.out, HN4.out]; exact cnt_val (V.norm _)
            have r0 : R64 n0 := by rw [HN0.out]; exact V.r64 (V.sum _)
            have r4 : R64 n4 := by rw [HN4.out]; exact V.r64 (V.norm _)
            have av : avgT A = (ov (avgP A), nn (avgP A), true) := by unfold avgT; rw [if_neg (by rw [hemp]; decide)]
            have hdiv : ∀ W, Calls Tryz.prog 22 #[.agg #[.bool o0, .int .i64 n0], .agg #[.bool o4, .int .i64 n4]] W fun e w' => e = .returned (.agg #[.bool o1, .int .i64 n1]) ∧ Below W.heap.size W w' := fun W => by
              have := quo_any o0 o4 n0 n4 W r0 r4
              rw [c0, c4] at this
              rw [HO1.out, HN1.out, av]
              exact this
            have r2 : R64 n2 := by rw [HN2.out]; exact bst_rg false hBrg
            have r3 : R64 n3 := by rw [HN3.out]; exact bst_rg true hBrg
            obtain ⟨c, hc, hc0⟩ : ∃ c : Int, fCmp (cnt o2 n2) (cnt o3 n3) = c ∧ c ≤ 0 := ⟨_, rfl, by rw [HO2.out, HN2.out, HO3.out, HN3.out]; exact bst_cmp hBrg⟩
            have hcmp : ∀ W, Calls Tryz.prog 23 #[.agg #[.bool o2, .int .i64 n2], .agg #[.bool o3, .int .i64 n3]] W fun e w' => e = .returned (.int .i64 c) ∧ Below W.heap.size W w' := fun W => by
              have := cmp_any o2 o3 n2 n3 W r2 r3
              rw [hc] at this
              exact this
            have HWP : Hid (IntKind.i64.wrap (p : Int) = (p : Int)) := wI (by omega) (by omega)
            have dc : decide (c ≤ 0) = true := decide_eq_true hc0
            have e0 : z0 = true := by rw [HZ0.out]; exact decide_eq_true (by omega)
            rw [hp]
            clear hc av c0 r0 hArg hBrg hAle hemp r2 r3
            by_cases h2 : A.length < 2
            · have e6 : z6 = false := by rw [HZ6.out]; unfold incT; rw [if_pos h2]
              have e7 : z7 = false := by rw [HZ7.out]; unfold rteT; rw [if_pos h2]
              have dl : decide (1 < (p : Int) + 1) = false := decide_eq_false (by omega)
              have dm : decide (1 ≤ (p : Int) + 1) = true := decide_eq_true (by omega)
              subst e0 e6 e7
              go_wp2_with fail
              have HSS : Hid (∀ W, Below u8.heap.size u8 W → (fun W : World => (W.cell? ⟨x0, 0, none⟩ = some (.bool o0) ∧ W.cell? ⟨x0, 1, none⟩ = some (.int .i64 n0)) ∧ (W.cell? ⟨x1, 0, none⟩ = some (.bool o1) ∧ W.cell? ⟨x1, 1, none⟩ = some (.int .i64 n1)) ∧ (W.cell? ⟨x2, 0, none⟩ = some (.bool o2) ∧ W.cell? ⟨x2, 1, none⟩ = some (.int .i64 n2)) ∧ (W.cell? ⟨x3, 0, none⟩ = some (.bool o3) ∧ W.cell? ⟨x3, 1, none⟩ = some (.int .i64 n3)) ∧ (W.cell? ⟨x4, 0, none⟩ = some (.bool o4) ∧ W.cell? ⟨x4, 1, none⟩ = some (.int .i64 n4)) ∧ (W.cell? ⟨x5, 0, none⟩ = some (.bool o5) ∧ W.cell? ⟨x5, 1, none⟩ = some (.int .i64 n5)) ∧ (W.cell? ⟨x6, 0, none⟩ = some (.bool o6) ∧ W.cell? ⟨x6, 1, none⟩ = some (.int .i64 n6)) ∧ (W.cell? ⟨x7, 0, none⟩ = some (.bool o7) ∧ W.cell? ⟨x7, 1, none⟩ = some (.int .i64 n7)) ∧ (W.cell? ⟨qb, qo + p * 3 + 1, none⟩ = some (.bool o5) ∧ W.cell? ⟨qb, qo + p * 3 + 2, none⟩ = some (.int .i64 n5))) W) := fun W hW => ⟨Bx.later hx0.out hW, Bx.later hx1.out hW, Bx.later hx2.out hW, Bx.later hx3.out hW, Bx.later hx4.out hW, Bx.later hx5.out hW, Bx.later hx6.out hW, Bx.later hx7.out hW, (hW.cell (World.block_lt_of_cell? _ _ l1)).trans l1, (hW.cell (World.block_lt_of_cell? _ _ l2)).trans l2⟩
              clear l1 l2
              have hS0 : (fun W : World => (W.cell? ⟨x0, 0, none⟩ = some (.bool o0) ∧ W.cell? ⟨x0, 1, none⟩ = some (.int .i64 n0)) ∧ (W.cell? ⟨x1, 0, none⟩ = some (.bool o1) ∧ W.cell? ⟨x1, 1, none⟩ = some (.int .i64 n1)) ∧ (W.cell? ⟨x2, 0, none⟩ = some (.bool o2) ∧ W.cell? ⟨x2, 1, none⟩ = some (.int .i64 n2)) ∧ (W.cell? ⟨x3, 0, none⟩ = some (.bool o3) ∧ W.cell? ⟨x3, 1, none⟩ = some (.int .i64 n3)) ∧ (W.cell? ⟨x4, 0, none⟩ = some (.bool o4) ∧ W.cell? ⟨x4, 1, none⟩ = some (.int .i64 n4)) ∧ (W.cell? ⟨x5, 0, none⟩ = some (.bool o5) ∧ W.cell? ⟨x5, 1, none⟩ = some (.int .i64 n5)) ∧ (W.cell? ⟨x6, 0, none⟩ = some (.bool o6) ∧ W.cell? ⟨x6, 1, none⟩ = some (.int .i64 n6)) ∧ (W.cell? ⟨x7, 0, none⟩ = some (.bool o7) ∧ W.cell? ⟨x7, 1, none⟩ = some (.int .i64 n7)) ∧ (W.cell? ⟨qb, qo + p * 3 + 1, none⟩ = some (.bool o5) ∧ W.cell? ⟨qb, qo + p * 3 + 2, none⟩ = some (.int .i64 n5))) _ := HSS.out _ (Below.refl u8.heap.size u8).drew
              refine wp_region_noPanic ?_
              refine wp_region_held_drew (S := fun W : World => (W.cell? ⟨x0, 0, none⟩ = some (.bool o0) ∧ W.cell? ⟨x0, 1, none⟩ = some (.int .i64 n0)) ∧ (W.cell? ⟨x1, 0, none⟩ = some (.bool o1) ∧ W.cell? ⟨x1, 1, none⟩ = some (.int .i64 n1)) ∧ (W.cell? ⟨x2, 0, none⟩ = some (.bool o2) ∧ W.cell? ⟨x2, 1, none⟩ = some (.int .i64 n2)) ∧ (W.cell? ⟨x3, 0, none⟩ = some (.bool o3) ∧ W.cell? ⟨x3, 1, none⟩ = some (.int .i64 n3)) ∧ (W.cell? ⟨x4, 0, none⟩ = some (.bool o4) ∧ W.cell? ⟨x4, 1, none⟩ = some (.int .i64 n4)) ∧ (W.cell? ⟨x5, 0, none⟩ = some (.bool o5) ∧ W.cell? ⟨x5, 1, none⟩ = some (.int .i64 n5)) ∧ (W.cell? ⟨x6, 0, none⟩ = some (.bool o6) ∧ W.cell? ⟨x6, 1, none⟩ = some (.int .i64 n6)) ∧ (W.cell? ⟨x7, 0, none⟩ = some (.bool o7) ∧ W.cell? ⟨x7, 1, none⟩ = some (.int .i64 n7)) ∧ (W.cell? ⟨qb, qo + p * 3 + 1, none⟩ = some (.bool o5) ∧ W.cell? ⟨qb, qo + p * 3 + 2, none⟩ = some (.int .i64 n5))) (by kernel_rfl) hS0 (fun _ => ?_)
              refine take_at 0 (some 141) (.bool true) rfl rfl (by kernel_rfl) (by kernel_rfl) (by kernel_rfl) (fun _ _ _ h => h) (by rfl) (fun W hSw => by clear hSw; go_simp) hS0 ?_
              simp only [Act.put, List.setIfInBounds_toArray, List.set_cons_zero, List.set_cons_succ]
              refine take_at 1 (some 142) (.bool true) rfl rfl (by kernel_rfl) (by kernel_rfl) (by kernel_rfl) (fun _ _ _ h => h) (by rfl) (fun W hSw => by clear hSw; go_simp) hS0 ?_
              simp only [Act.put, List.setIfInBounds_toArray, List.set_cons_zero, List.set_cons_succ]
              refine take_at 2 (some 143) (.slice (some ⟨qb, qo, none⟩) (p + 1) uc) rfl rfl (by kernel_rfl) (by kernel_rfl) (by kernel_rfl) (fun _ _ _ h => h) (by rfl) (fun W hSw => by clear hSw; go_simp) hS0 ?_
              simp only [Act.put, List.setIfInBounds_toArray, List.set_cons_zero, List.set_cons_succ]
              refine take_at 3 (some 144) (.int .i64 ((p : Int) + 1)) rfl rfl (by kernel_rfl) (by kernel_rfl) (by kernel_rfl) (fun _ _ _ h => h) (by rfl) (fun W hSw => by clear hSw; go_simp) hS0 ?_
              simp only [Act.put, List.setIfInBounds_toArray, List.set_cons_zero, List.set_cons_succ]
              refine take_at 4 (some 145) (.bool true) rfl rfl (by kernel_rfl) (by kernel_rfl) (by kernel_rfl) (fun _ _ _ h => h) (by rfl) (fun W hSw => by clear hSw; go_simp) hS0 ?_
              simp only [Act.put, List.setIfInBounds_toArray, List.set_cons_zero, List.set_cons_succ]
              refine take_at 5 (some 146) (.bool true) rfl rfl (by kernel_rfl) (by kernel_rfl) (by kernel_rfl) (fun _ _ _ h => h) (by rfl) (fun W hSw => by clear hSw; go_simp) hS0 ?_
              simp only [Act.put, List.setIfInBounds_toArray, List.set_cons_zero, List.set_cons_succ]
              refine take_at 6 (some 147) (.bool true) rfl rfl (by kernel_rfl) (by kernel_rfl) (by kernel_rfl) (fun _ _ _ h => h) (by rfl) (fun W hSw => by clear hSw; go_simp) hS0 ?_
              simp only [Act.put, List.setIfInBounds_toArray, List.set_cons_zero, List.set_cons_succ]
              refine take_at 7 (some 148) (.agg #[.bool o4, .int .i64 n4]) rfl rfl (by kernel_rfl) (by kernel_rfl) (by kernel_rfl) (fun _ _ _ h => h) (by rfl) (fun W hSw => by obtain ⟨-, -, -, -, ⟨a4, b4⟩, -, -, -, -⟩ := hSw; go_simp) hS0 ?_
              simp only [Act.put, List.setIfInBounds_toArray, List.set_cons_zero, List.set_cons_succ]
              refine take_at 8 (some 149) (.slice (some ⟨qb, qo, none⟩) (p + 1) uc) rfl rfl (by kernel_rfl) (by kernel_rfl) (by kernel_rfl) (fun _ _ _ h => h) (by rfl) (fun W hSw => by clear hSw; go_simp) hS0 ?_
              simp only [Act.put, List.setIfInBounds_toArray, List.set_cons_zero, List.set_cons_succ]
              refine take_at 9 (some 150) (.int .i64 ((p : Int) + 1)) rfl rfl (by kernel_rfl) (by kernel_rfl) (by kernel_rfl) (fun _ _ _ h => h) (by rfl) (fun W hSw => by clear hSw; go_simp) hS0 ?_
              simp only [Act.put, List.setIfInBounds_toArray, List.set_cons_zero, List.set_cons_succ]
              refine wpAnyH_ready (rs := [10]) (by kernel_rfl) (by simp) ?_
              refine AllReadyH.cons rfl (fun K hK => ?_) AllReadyH.nil
              go_simp
              refine (hof _).mono ?_
              rintro e y1 ⟨rfl, hy1⟩
              have hc1 := Below.chain (Below.refl u8.heap.size u8).drew hy1
              have hS1 := HSS.out _ hc1
              refine hK.out _ _ hS1 (fun _ => ?_)
              clear hK K
              refine take_at 11 (some 152) (.bool true) rfl rfl (by kernel_rfl) (by kernel_rfl) (by kernel_rfl) (fun _ _ _ h => h) (by rfl) (fun W hSw => by clear hSw; exact num_eql _ _ _ _ o4 n4 rfl rfl rfl W) hS1 ?_
              simp only [Act.put, List.setIfInBounds_toArray, List.set_cons_zero, List.set_cons_succ]
              refine take_at 12 (some 153) (.bool true) rfl rfl (by kernel_rfl) (by kernel_rfl) (by kernel_rfl) (fun _ _ _ h => h) (by rfl) (fun W hSw => by clear hSw; go_simp) hS1 ?_
              simp only [Act.put, List.setIfInBounds_toArray, List.set_cons_zero, List.set_cons_succ]
              refine take_at 13 (some 154) (.bool true) rfl rfl (by kernel_rfl) (by kernel_rfl) (by kernel_rfl) (fun _ _ _ h => h) (by rfl) (fun W hSw => by clear hSw; go_simp) hS1 ?_
              simp only [Act.put, List.setIfInBounds_toArray, List.set_cons_zero, List.set_cons_succ]
              refine take_at 14 (some 155) (.agg #[.bool o1, .int .i64 n1]) rfl rfl (by kernel_rfl) (by kernel_rfl) (by kernel_rfl) (fun _ _ _ h => h) (by rfl) (fun W hSw => by obtain ⟨-, ⟨a1, b1⟩, -, -, -, -, -, -, -⟩ := hSw; go_simp) hS1 ?_
              simp only [Act.put, List.setIfInBounds_toArray, List.set_cons_zero, List.set_cons_succ]
              refine take_at 15 (some 156) (.agg #[.bool o0, .int .i64 n0]) rfl rfl (by kernel_rfl) (by kernel_rfl) (by kernel_rfl) (fun _ _ _ h => h) (by rfl) (fun W hSw => by obtain ⟨⟨a0, b0⟩, -, -, -, -, -, -, -, -⟩ := hSw; go_simp) hS1 ?_
              simp only [Act.put, List.setIfInBounds_toArray, List.set_cons_zero, List.set_cons_succ]
              refine take_at 16 (some 157) (.agg #[.bool o4, .int .i64 n4]) rfl rfl (by kernel_rfl) (by kernel_rfl) (by kernel_rfl) (fun _ _ _ h => h) (by rfl) (fun W hSw => by obtain ⟨-, -, -, -, ⟨a4, b4⟩, -, -, -, -⟩ := hSw; go_simp) hS1 ?_
              simp only [Act.put, List.setIfInBounds_toArray, List.set_cons_zero, List.set_cons_succ]
              refine wpAnyH_ready (rs := [17]) (by kernel_rfl) (by simp) ?_
              refine AllReadyH.cons rfl (fun K hK => ?_) AllReadyH.nil
              go_simp
              refine (hdiv _).mono ?_
              rintro e y2 ⟨rfl, hy2⟩
              have hc2 := Below.chain hc1 hy2
              have hS2 := HSS.out _ hc2
              refine hK.out _ _ hS2 (fun _ => ?_)
              clear hK K
              refine take_at 18 (some 159) (.bool true) rfl rfl (by kernel_rfl) (by kernel_rfl) (by kernel_rfl) (fun _ _ _ h => h) (by rfl) (fun W hSw => by clear hSw; exact num_eql _ _ _ _ o1 n1 rfl rfl rfl W) hS2 ?_
              simp only [Act.put, List.setIfInBounds_toArray, List.set_cons_zero, List.set_cons_succ]
              refine take_at 19 (some 160) (.bool true) rfl rfl (by kernel_rfl) (by kernel_rfl) (by kernel_rfl) (fun _ _ _ h => h) (by rfl) (fun W hSw => by clear hSw; go_simp) hS2 ?_
              simp only [Act.put, List.setIfInBounds_toArray, List.set_cons_zero, List.set_cons_succ]
              refine take_at 20 (some 161) (.bool true) rfl rfl (by kernel_rfl) (by kernel_rfl) (by kernel_rfl) (fun _ _ _ h => h) (by rfl) (fun W hSw => by clear hSw; go_simp) hS2 ?_
              simp only [Act.put, List.setIfInBounds_toArray, List.set_cons_zero, List.set_cons_succ]
              refine take_at 21 (some 162) (.agg #[.bool o2, .int .i64 n2]) rfl rfl (by kernel_rfl) (by kernel_rfl) (by kernel_rfl) (fun _ _ _ h => h) (by rfl) (fun W hSw => by obtain ⟨-, -, ⟨a2, b2⟩, -, -, -, -, -, -⟩ := hSw; go_simp) hS2 ?_
              simp only [Act.put, List.setIfInBounds_toArray, List.set_cons_zero, List.set_cons_succ]
              refine take_at 22 (some 163) (.agg #[.bool o3, .int .i64 n3]) rfl rfl (by kernel_rfl) (by kernel_rfl) (by kernel_rfl) (fun _ _ _ h => h) (by rfl) (fun W hSw => by obtain ⟨-, -, -, ⟨a3, b3⟩, -, -, -, -, -⟩ := hSw; go_simp) hS2 ?_
              simp only [Act.put, List.setIfInBounds_toArray, List.set_cons_zero, List.set_cons_succ]
              refine wpAnyH_ready (rs := [23]) (by kernel_rfl) (by simp) ?_
              refine AllReadyH.cons rfl (fun K hK => ?_) AllReadyH.nil
              go_simp
              refine (hcmp _).mono ?_
              rintro e y3 ⟨rfl, hy3⟩
              have hc3 := Below.chain hc2 hy3
              have hS3 := HSS.out _ hc3
              refine hK.out _ _ hS3 (fun _ => ?_)
              clear hK K
              refine take_at 24 (some 165) (.bool true) rfl rfl (by kernel_rfl) (by kernel_rfl) (by kernel_rfl) (fun _ _ _ h => h) (by rfl) (fun W hSw => by clear hSw; go_simp) hS3 ?_
              simp only [Act.put, List.setIfInBounds_toArray, List.set_cons_zero, List.set_cons_succ]
              refine take_at 25 (some 166) (.bool true) rfl rfl (by kernel_rfl) (by kernel_rfl) (by kernel_rfl) (fun _ _ _ h => h) (by rfl) (fun W hSw => by clear hSw; go_simp) hS3 ?_
              simp only [Act.put, List.setIfInBounds_toArray, List.set_cons_zero, List.set_cons_succ]
              refine take_at 26 (some 167) (.bool true) rfl rfl (by kernel_rfl) (by kernel_rfl) (by kernel_rfl) (fun _ _ _ h => h) (by rfl) (fun W hSw => by clear hSw; go_simp) hS3 ?_
              simp only [Act.put, List.setIfInBounds_toArray, List.set_cons_zero, List.set_cons_succ]
              refine take_at 27 (some 168) (.agg #[.bool o5, .int .i64 n5]) rfl rfl (by kernel_rfl) (by kernel_rfl) (by kernel_rfl) (fun _ _ _ h => h) (by rfl) (fun W hSw => by obtain ⟨-, -, -, -, -, ⟨a5, b5⟩, -, -, -⟩ := hSw; go_simp) hS3 ?_
              simp only [Act.put, List.setIfInBounds_toArray, List.set_cons_zero, List.set_cons_succ]
              refine take_at 28 (some 169) (.slice (some ⟨qb, qo, none⟩) (p + 1) uc) rfl rfl (by kernel_rfl) (by kernel_rfl) (by kernel_rfl) (fun _ _ _ h => h) (by rfl) (fun W hSw => by clear hSw; go_simp) hS3 ?_
              simp only [Act.put, List.setIfInBounds_toArray, List.set_cons_zero, List.set_cons_succ]
              refine take_at 29 (some 170) (.slice (some ⟨qb, qo, none⟩) (p + 1) uc) rfl rfl (by kernel_rfl) (by kernel_rfl) (by kernel_rfl) (fun _ _ _ h => h) (by rfl) (fun W hSw => by clear hSw; go_simp) hS3 ?_
              simp only [Act.put, List.setIfInBounds_toArray, List.set_cons_zero, List.set_cons_succ]
              refine take_at 30 (some 171) (.int .i64 ((p : Int) + 1)) rfl rfl (by kernel_rfl) (by kernel_rfl) (by kernel_rfl) (fun _ _ _ h => h) (by rfl) (fun W hSw => by clear hSw; go_simp) hS3 ?_
              simp only [Act.put, List.setIfInBounds_toArray, List.set_cons_zero, List.set_cons_succ]
              refine take_at 31 (some 172) (.int .i64 (p : Int)) rfl rfl (by kernel_rfl) (by kernel_rfl) (by kernel_rfl) (fun _ _ _ h => h) (by rfl) (fun W hSw => by clear hSw; go_simp; exact HWP.out) hS3 ?_
              simp only [Act.put, List.setIfInBounds_toArray, List.set_cons_zero, List.set_cons_succ]
              refine take_at 32 (some 173) (.pointer (some ⟨qb, qo + p * 3, none⟩)) rfl rfl (by kernel_rfl) (by kernel_rfl) (by kernel_rfl) (fun _ _ _ h => h) (by rfl) (fun W hSw => by clear hSw; go_simp; intro hx9; omega) hS3 ?_
              simp only [Act.put, List.setIfInBounds_toArray, List.set_cons_zero, List.set_cons_succ]
              refine take_at 33 (some 174) (.pointer (some ⟨qb, qo + p * 3 + 1, none⟩)) rfl rfl (by kernel_rfl) (by kernel_rfl) (by kernel_rfl) (fun _ _ _ h => h) (by rfl) (fun W hSw => by clear hSw; go_simp) hS3 ?_
              simp only [Act.put, List.setIfInBounds_toArray, List.set_cons_zero, List.set_cons_succ]
              refine take_at 34 (some 175) (.agg #[.bool o5, .int .i64 n5]) rfl rfl (by kernel_rfl) (by kernel_rfl) (by kernel_rfl) (fun _ _ _ h => h) (by rfl) (fun W hSw => by obtain ⟨-, -, -, -, -, -, -, -, ⟨a8, b8⟩⟩ := hSw; go_simp) hS3 ?_
              simp only [Act.put, List.setIfInBounds_toArray, List.set_cons_zero, List.set_cons_succ]
              refine take_at 35 (some 176) (.bool true) rfl rfl (by kernel_rfl) (by kernel_rfl) (by kernel_rfl) (fun _ _ _ h => h) (by rfl) (fun W hSw => by clear hSw; exact num_eql _ _ _ _ o5 n5 rfl rfl rfl W) hS3 ?_
              simp only [Act.put, List.setIfInBounds_toArray, List.set_cons_zero, List.set_cons_succ]
              refine take_at 36 (some 177) (.bool true) rfl rfl (by kernel_rfl) (by kernel_rfl) (by kernel_rfl) (fun _ _ _ h => h) (by rfl) (fun W hSw => by clear hSw; go_simp) hS3 ?_
              simp only [Act.put, List.setIfInBounds_toArray, List.set_cons_zero, List.set_cons_succ]
              refine take_at 37 (some 178) (.bool true) rfl rfl (by kernel_rfl) (by kernel_rfl) (by kernel_rfl) (fun _ _ _ h => h) (by rfl) (fun W hSw => by clear hSw; go_simp) hS3 ?_
              simp only [Act.put, List.setIfInBounds_toArray, List.set_cons_zero, List.set_cons_succ]
              refine take_at 38 (some 179) (.bool false) rfl rfl (by kernel_rfl) (by kernel_rfl) (by kernel_rfl) (fun _ _ _ h => h) (by rfl) (fun W hSw => by clear hSw; go_simp) hS3 ?_
              simp only [Act.put, List.setIfInBounds_toArray, List.set_cons_zero, List.set_cons_succ]
              refine take_at 39 (some 180) (.slice (some ⟨qb, qo, none⟩) (p + 1) uc) rfl rfl (by kernel_rfl) (by kernel_rfl) (by kernel_rfl) (fun _ _ _ h => h) (by rfl) (fun W hSw => by clear hSw; go_simp) hS3 ?_
              simp only [Act.put, List.setIfInBounds_toArray, List.set_cons_zero, List.set_cons_succ]
              refine take_at 40 (some 181) (.int .i64 ((p : Int) + 1)) rfl rfl (by kernel_rfl) (by kernel_rfl) (by kernel_rfl) (fun _ _ _ h => h) (by rfl) (fun W hSw => by clear hSw; go_simp) hS3 ?_
              simp only [Act.put, List.setIfInBounds_toArray, List.set_cons_zero, List.set_cons_succ]
              refine take_at 41 (some 182) (.bool false) rfl rfl (by kernel_rfl) (by kernel_rfl) (by kernel_rfl) (fun _ _ _ h => h) (by rfl) (fun W hSw => by clear hSw; go_simp) hS3 ?_
              simp only [Act.put, List.setIfInBounds_toArray, List.set_cons_zero, List.set_cons_succ]
              refine take_at 42 (some 183) (.bool true) rfl rfl (by kernel_rfl) (by kernel_rfl) (by kernel_rfl) (fun _ _ _ h => h) (by rfl) (fun W hSw => by clear hSw; go_simp) hS3 ?_
              simp only [Act.put, List.setIfInBounds_toArray, List.set_cons_zero, List.set_cons_succ]
              refine take_at 43 (some 184) (.bool true) rfl rfl (by kernel_rfl) (by kernel_rfl) (by kernel_rfl) (fun _ _ _ h => h) (by rfl) (fun W hSw => by clear hSw; go_simp) hS3 ?_
              simp only [Act.put, List.setIfInBounds_toArray, List.set_cons_zero, List.set_cons_succ]
              refine take_at 44 (some 185) (.bool true) rfl rfl (by kernel_rfl) (by kernel_rfl) (by kernel_rfl) (fun _ _ _ h => h) (by rfl) (fun W hSw => by clear hSw; go_simp) hS3 ?_
              simp only [Act.put, List.setIfInBounds_toArray, List.set_cons_zero, List.set_cons_succ]
              refine take_at 45 (some 186) (.bool false) rfl rfl (by kernel_rfl) (by kernel_rfl) (by kernel_rfl) (fun _ _ _ h => h) (by rfl) (fun W hSw => by clear hSw; go_simp) hS3 ?_
              simp only [Act.put, List.setIfInBounds_toArray, List.set_cons_zero, List.set_cons_succ]
              refine take_at 46 (some 187) (.bool false) rfl rfl (by kernel_rfl) (by kernel_rfl) (by kernel_rfl) (fun _ _ _ h => h) (by rfl) (fun W hSw => by clear hSw; go_simp) hS3 ?_
              simp only [Act.put, List.setIfInBounds_toArray, List.set_cons_zero, List.set_cons_succ]
              refine take_at 47 (some 188) (.bool true) rfl rfl (by kernel_rfl) (by kernel_rfl) (by kernel_rfl) (fun _ _ _ h => h) (by rfl) (fun W hSw => by clear hSw; go_simp) hS3 ?_
              simp only [Act.put, List.setIfInBounds_toArray, List.set_cons_zero, List.set_cons_succ]
              refine take_at 48 (some 189) (.bool true) rfl rfl (by kernel_rfl) (by kernel_rfl) (by kernel_rfl) (fun _ _ _ h => h) (by rfl) (fun W hSw => by clear hSw; go_simp) hS3 ?_
              simp only [Act.put, List.setIfInBounds_toArray, List.set_cons_zero, List.set_cons_succ]
              refine take_at 49 (some 190) (.bool true) rfl rfl (by kernel_rfl) (by kernel_rfl) (by kernel_rfl) (fun _ _ _ h => h) (by rfl) (fun W hSw => by clear hSw; go_simp) hS3 ?_
              simp only [Act.put, List.setIfInBounds_toArray, List.set_cons_zero, List.set_cons_succ]
              refine take_at 50 (some 191) (.bool false) rfl rfl (by kernel_rfl) (by kernel_rfl) (by kernel_rfl) (fun _ _ _ h => h) (by rfl) (fun W hSw => by clear hSw; go_simp) hS3 ?_
              simp only [Act.put, List.setIfInBounds_toArray, List.set_cons_zero, List.set_cons_succ]
              refine take_at 51 (some 192) (.bool true) rfl rfl (by kernel_rfl) (by kernel_rfl) (by kernel_rfl) (fun _ _ _ h => h) (by rfl) (fun W hSw => by clear hSw; go_simp) hS3 ?_
              simp only [Act.put, List.setIfInBounds_toArray, List.set_cons_zero, List.set_cons_succ]
              refine take_at 52 (some 193) (.bool true) rfl rfl (by kernel_rfl) (by kernel_rfl) (by kernel_rfl) (fun _ _ _ h => h) (by rfl) (fun W hSw => by clear hSw; go_simp) hS3 ?_
              simp only [Act.put, List.setIfInBounds_toArray, List.set_cons_zero, List.set_cons_succ]
              refine skip_at 53 (some 194) rfl rfl (by kernel_rfl) (by kernel_rfl) (by kernel_rfl) (fun _ _ _ h => h) (by rfl) hS3 ?_
              simp only [Act.put, List.setIfInBounds_toArray, List.set_cons_zero, List.set_cons_succ]
              refine skip_at 54 (some 195) rfl rfl (by kernel_rfl) (by kernel_rfl) (by kernel_rfl) (fun _ _ _ h => h) (by rfl) hS3 ?_
              simp only [Act.put, List.setIfInBounds_toArray, List.set_cons_zero, List.set_cons_succ]
              refine skip_at 55 (some 196) rfl rfl (by kernel_rfl) (by kernel_rfl) (by kernel_rfl) (fun _ _ _ h => h) (by rfl) hS3 ?_
              simp only [Act.put, List.setIfInBounds_toArray, List.set_cons_zero, List.set_cons_succ]
              refine skip_at 56 (some 197) rfl rfl (by kernel_rfl) (by kernel_rfl) (by kernel_rfl) (fun _ _ _ h => h) (by rfl) hS3 ?_
              simp only [Act.put, List.setIfInBounds_toArray, List.set_cons_zero, List.set_cons_succ]
              refine skip_at 57 (some 198) rfl rfl (by kernel_rfl) (by kernel_rfl) (by kernel_rfl) (fun _ _ _ h => h) (by rfl) hS3 ?_
              simp only [Act.put, List.setIfInBounds_toArray, List.set_cons_zero, List.set_cons_succ]
              refine skip_at 58 (some 199) rfl rfl (by kernel_rfl) (by kernel_rfl) (by kernel_rfl) (fun _ _ _ h => h) (by rfl) hS3 ?_
              simp only [Act.put, List.setIfInBounds_toArray, List.set_cons_zero, List.set_cons_succ]
              refine take_at 59 (some 200) (.bool true) rfl rfl (by kernel_rfl) (by kernel_rfl) (by kernel_rfl) (fun _ _ _ h => h) (by rfl) (fun W hSw => by clear hSw; go_simp) hS3 ?_
              simp only [Act.put, List.setIfInBounds_toArray, List.set_cons_zero, List.set_cons_succ]
              refine take_at 60 (some 201) (.bool true) rfl rfl (by kernel_rfl) (by kernel_rfl) (by kernel_rfl) (fun _ _ _ h => h) (by rfl) (fun W hSw => by clear hSw; go_simp) hS3 ?_
              simp only [Act.put, List.setIfInBounds_toArray, List.set_cons_zero, List.set_cons_succ]
              refine take_at 61 (some 6) (.bool true) rfl rfl (by kernel_rfl) (by kernel_rfl) (by kernel_rfl) (fun _ _ _ h => h) (by rfl) (fun W hSw => by clear hSw; go_simp) hS3 ?_
              simp only [Act.put, List.setIfInBounds_toArray, List.set_cons_zero, List.set_cons_succ]
              refine wpAnyH_done (by kernel_rfl) ?_ _
              refine NoPanic.normal ?_
              go_wp2
              go_ret
              exact ⟨rfl, Below.chain hbf hc3⟩
            · have rT : rteT A k = (ov (rteP A k), nn (rteP A k), true) := by unfold rteT; rw [if_neg h2]
              have iT : incT A = (ov (incP A), nn (incP A), true) := by unfold incT; rw [if_neg h2]
              have e6 : z6 = true := by rw [HZ6.out, iT]
              have e7 : z7 = true := by rw [HZ7.out, rT]
              have dl : decide (1 < (p : Int) + 1) = true := decide_eq_true (by omega)
              have dm : decide (1 ≤ (p : Int) + 1) = true := decide_eq_true (by omega)
              obtain ⟨o8, ho8⟩ : ∃ o, o = ov (fOf k) := ⟨_, rfl⟩
              obtain ⟨n8, hn8⟩ : ∃ n, n = nn (fOf k) := ⟨_, rfl⟩
              have hofk : ∀ W, Calls Tryz.prog 18 #[.int .i64 k] W fun e w' => e = .returned (.agg #[.bool o8, .int .i64 n8]) ∧ Below W.heap.size W w' := fun W => by
                rw [ho8, hn8]
                exact of_any k W (by unfold R64; omega)
              have hdr : ∀ W, Calls Tryz.prog 22 #[.agg #[.bool o6, .int .i64 n6], .agg #[.bool o8, .int .i64 n8]] W fun e w' => e = .returned (.agg #[.bool o7, .int .i64 n7]) ∧ Below W.heap.size W w' := fun W => by
                have h6 : n6 = nn (incP A) ∧ o6 = ov (incP A) := by rw [HN6.out, HO6.out, iT]; exact ⟨rfl, rfl⟩
                have := quo_any o6 o8 n6 n8 W (by rw [h6.1]; exact V.r64 (V.sum _)) (by rw [hn8]; exact V.r64 (V.norm _))
                rw [h6.1, h6.2, ho8, hn8, show cnt (ov (fOf k)) (nn (fOf k)) = fOf k from cnt_val (V.norm _), show cnt (ov (incP A)) (nn (incP A)) = incP A from cnt_val (V.sum _)] at this
                rw [h6.1, h6.2, ho8, hn8, HO7.out, HN7.out, rT]
                exact this
              clear rT iT ho8 hn8
              subst e0 e6 e7
              go_wp2_with fail
              have HSS : Hid (∀ W, Below u8.heap.size u8 W → (fun W : World => (W.cell? ⟨x0, 0, none⟩ = some (.bool o0) ∧ W.cell? ⟨x0, 1, none⟩ = some (.int .i64 n0)) ∧ (W.cell? ⟨x1, 0, none⟩ = some (.bool o1) ∧ W.cell? ⟨x1, 1, none⟩ = some (.int .i64 n1)) ∧ (W.cell? ⟨x2, 0, none⟩ = some (.bool o2) ∧ W.cell? ⟨x2, 1, none⟩ = some (.int .i64 n2)) ∧ (W.cell? ⟨x3, 0, none⟩ = some (.bool o3) ∧ W.cell? ⟨x3, 1, none⟩ = some (.int .i64 n3)) ∧ (W.cell? ⟨x4, 0, none⟩ = some (.bool o4) ∧ W.cell? ⟨x4, 1, none⟩ = some (.int .i64 n4)) ∧ (W.cell? ⟨x5, 0, none⟩ = some (.bool o5) ∧ W.cell? ⟨x5, 1, none⟩ = some (.int .i64 n5)) ∧ (W.cell? ⟨x6, 0, none⟩ = some (.bool o6) ∧ W.cell? ⟨x6, 1, none⟩ = some (.int .i64 n6)) ∧ (W.cell? ⟨x7, 0, none⟩ = some (.bool o7) ∧ W.cell? ⟨x7, 1, none⟩ = some (.int .i64 n7)) ∧ (W.cell? ⟨qb, qo + p * 3 + 1, none⟩ = some (.bool o5) ∧ W.cell? ⟨qb, qo + p * 3 + 2, none⟩ = some (.int .i64 n5))) W) := fun W hW => ⟨Bx.later hx0.out hW, Bx.later hx1.out hW, Bx.later hx2.out hW, Bx.later hx3.out hW, Bx.later hx4.out hW, Bx.later hx5.out hW, Bx.later hx6.out hW, Bx.later hx7.out hW, (hW.cell (World.block_lt_of_cell? _ _ l1)).trans l1, (hW.cell (World.block_lt_of_cell? _ _ l2)).trans l2⟩
              clear l1 l2
              have hS0 : (fun W : World => (W.cell? ⟨x0, 0, none⟩ = some (.bool o0) ∧ W.cell? ⟨x0, 1, none⟩ = some (.int .i64 n0)) ∧ (W.cell? ⟨x1, 0, none⟩ = some (.bool o1) ∧ W.cell? ⟨x1, 1, none⟩ = some (.int .i64 n1)) ∧ (W.cell? ⟨x2, 0, none⟩ = some (.bool o2) ∧ W.cell? ⟨x2, 1, none⟩ = some (.int .i64 n2)) ∧ (W.cell? ⟨x3, 0, none⟩ = some (.bool o3) ∧ W.cell? ⟨x3, 1, none⟩ = some (.int .i64 n3)) ∧ (W.cell? ⟨x4, 0, none⟩ = some (.bool o4) ∧ W.cell? ⟨x4, 1, none⟩ = some (.int .i64 n4)) ∧ (W.cell? ⟨x5, 0, none⟩ = some (.bool o5) ∧ W.cell? ⟨x5, 1, none⟩ = some (.int .i64 n5)) ∧ (W.cell? ⟨x6, 0, none⟩ = some (.bool o6) ∧ W.cell? ⟨x6, 1, none⟩ = some (.int .i64 n6)) ∧ (W.cell? ⟨x7, 0, none⟩ = some (.bool o7) ∧ W.cell? ⟨x7, 1, none⟩ = some (.int .i64 n7)) ∧ (W.cell? ⟨qb, qo + p * 3 + 1, none⟩ = some (.bool o5) ∧ W.cell? ⟨qb, qo + p * 3 + 2, none⟩ = some (.int .i64 n5))) _ := HSS.out _ (Below.refl u8.heap.size u8).drew
              refine wp_region_noPanic ?_
              refine wp_region_held_drew (S := fun W : World => (W.cell? ⟨x0, 0, none⟩ = some (.bool o0) ∧ W.cell? ⟨x0, 1, none⟩ = some (.int .i64 n0)) ∧ (W.cell? ⟨x1, 0, none⟩ = some (.bool o1) ∧ W.cell? ⟨x1, 1, none⟩ = some (.int .i64 n1)) ∧ (W.cell? ⟨x2, 0, none⟩ = some (.bool o2) ∧ W.cell? ⟨x2, 1, none⟩ = some (.int .i64 n2)) ∧ (W.cell? ⟨x3, 0, none⟩ = some (.bool o3) ∧ W.cell? ⟨x3, 1, none⟩ = some (.int .i64 n3)) ∧ (W.cell? ⟨x4, 0, none⟩ = some (.bool o4) ∧ W.cell? ⟨x4, 1, none⟩ = some (.int .i64 n4)) ∧ (W.cell? ⟨x5, 0, none⟩ = some (.bool o5) ∧ W.cell? ⟨x5, 1, none⟩ = some (.int .i64 n5)) ∧ (W.cell? ⟨x6, 0, none⟩ = some (.bool o6) ∧ W.cell? ⟨x6, 1, none⟩ = some (.int .i64 n6)) ∧ (W.cell? ⟨x7, 0, none⟩ = some (.bool o7) ∧ W.cell? ⟨x7, 1, none⟩ = some (.int .i64 n7)) ∧ (W.cell? ⟨qb, qo + p * 3 + 1, none⟩ = some (.bool o5) ∧ W.cell? ⟨qb, qo + p * 3 + 2, none⟩ = some (.int .i64 n5))) (by kernel_rfl) hS0 (fun _ => ?_)
              refine take_at 0 (some 141) (.bool true) rfl rfl (by kernel_rfl) (by kernel_rfl) (by kernel_rfl) (fun _ _ _ h => h) (by rfl) (fun W hSw => by clear hSw; go_simp) hS0 ?_
              simp only [Act.put, List.setIfInBounds_toArray, List.set_cons_zero, List.set_cons_succ]
              refine take_at 1 (some 142) (.bool true) rfl rfl (by kernel_rfl) (by kernel_rfl) (by kernel_rfl) (fun _ _ _ h => h) (by rfl) (fun W hSw => by clear hSw; go_simp) hS0 ?_
              simp only [Act.put, List.setIfInBounds_toArray, List.set_cons_zero, List.set_cons_succ]
              refine take_at 2 (some 143) (.slice (some ⟨qb, qo, none⟩) (p + 1) uc) rfl rfl (by kernel_rfl) (by kernel_rfl) (by kernel_rfl) (fun _ _ _ h => h) (by rfl) (fun W hSw => by clear hSw; go_simp) hS0 ?_
              simp only [Act.put, List.setIfInBounds_toArray, List.set_cons_zero, List.set_cons_succ]
              refine take_at 3 (some 144) (.int .i64 ((p : Int) + 1)) rfl rfl (by kernel_rfl) (by kernel_rfl) (by kernel_rfl) (fun _ _ _ h => h) (by rfl) (fun W hSw => by clear hSw; go_simp) hS0 ?_
              simp only [Act.put, List.setIfInBounds_toArray, List.set_cons_zero, List.set_cons_succ]
              refine take_at 4 (some 145) (.bool true) rfl rfl (by kernel_rfl) (by kernel_rfl) (by kernel_rfl) (fun _ _ _ h => h) (by rfl) (fun W hSw => by clear hSw; go_simp) hS0 ?_
              simp only [Act.put, List.setIfInBounds_toArray, List.set_cons_zero, List.set_cons_succ]
              refine take_at 5 (some 146) (.bool true) rfl rfl (by kernel_rfl) (by kernel_rfl) (by kernel_rfl) (fun _ _ _ h => h) (by rfl) (fun W hSw => by clear hSw; go_simp) hS0 ?_
              simp only [Act.put, List.setIfInBounds_toArray, List.set_cons_zero, List.set_cons_succ]
              refine take_at 6 (some 147) (.bool true) rfl rfl (by kernel_rfl) (by kernel_rfl) (by kernel_rfl) (fun _ _ _ h => h) (by rfl) (fun W hSw => by clear hSw; go_simp) hS0 ?_
              simp only [Act.put, List.setIfInBounds_toArray, List.set_cons_zero, List.set_cons_succ]
              refine take_at 7 (some 148) (.agg #[.bool o4, .int .i64 n4]) rfl rfl (by kernel_rfl) (by kernel_rfl) (by kernel_rfl) (fun _ _ _ h => h) (by rfl) (fun W hSw => by obtain ⟨-, -, -, -, ⟨a4, b4⟩, -, -, -, -⟩ := hSw; go_simp) hS0 ?_
              simp only [Act.put, List.setIfInBounds_toArray, List.set_cons_zero, List.set_cons_succ]
              refine take_at 8 (some 149) (.slice (some ⟨qb, qo, none⟩) (p + 1) uc) rfl rfl (by kernel_rfl) (by kernel_rfl) (by kernel_rfl) (fun _ _ _ h => h) (by rfl) (fun W hSw => by clear hSw; go_simp) hS0 ?_
              simp only [Act.put, List.setIfInBounds_toArray, List.set_cons_zero, List.set_cons_succ]
              refine take_at 9 (some 150) (.int .i64 ((p : Int) + 1)) rfl rfl (by kernel_rfl) (by kernel_rfl) (by kernel_rfl) (fun _ _ _ h => h) (by rfl) (fun W hSw => by clear hSw; go_simp) hS0 ?_
              simp only [Act.put, List.setIfInBounds_toArray, List.set_cons_zero, List.set_cons_succ]
              refine wpAnyH_ready (rs := [10]) (by kernel_rfl) (by simp) ?_
              refine AllReadyH.cons rfl (fun K hK => ?_) AllReadyH.nil
              go_simp
              refine (hof _).mono ?_
              rintro e y1 ⟨rfl, hy1⟩
              have hc1 := Below.chain (Below.refl u8.heap.size u8).drew hy1
              have hS1 := HSS.out _ hc1
              refine hK.out _ _ hS1 (fun _ => ?_)
              clear hK K
              refine take_at 11 (some 152) (.bool true) rfl rfl (by kernel_rfl) (by kernel_rfl) (by kernel_rfl) (fun _ _ _ h => h) (by rfl) (fun W hSw => by clear hSw; exact num_eql _ _ _ _ o4 n4 rfl rfl rfl W) hS1 ?_
              simp only [Act.put, List.setIfInBounds_toArray, List.set_cons_zero, List.set_cons_succ]
              refine take_at 12 (some 153) (.bool true) rfl rfl (by kernel_rfl) (by kernel_rfl) (by kernel_rfl) (fun _ _ _ h => h) (by rfl) (fun W hSw => by clear hSw; go_simp) hS1 ?_
              simp only [Act.put, List.setIfInBounds_toArray, List.set_cons_zero, List.set_cons_succ]
              refine take_at 13 (some 154) (.bool true) rfl rfl (by kernel_rfl) (by kernel_rfl) (by kernel_rfl) (fun _ _ _ h => h) (by rfl) (fun W hSw => by clear hSw; go_simp) hS1 ?_
              simp only [Act.put, List.setIfInBounds_toArray, List.set_cons_zero, List.set_cons_succ]
              refine take_at 14 (some 155) (.agg #[.bool o1, .int .i64 n1]) rfl rfl (by kernel_rfl) (by kernel_rfl) (by kernel_rfl) (fun _ _ _ h => h) (by rfl) (fun W hSw => by obtain ⟨-, ⟨a1, b1⟩, -, -, -, -, -, -, -⟩ := hSw; go_simp) hS1 ?_
              simp only [Act.put, List.setIfInBounds_toArray, List.set_cons_zero, List.set_cons_succ]
              refine take_at 15 (some 156) (.agg #[.bool o0, .int .i64 n0]) rfl rfl (by kernel_rfl) (by kernel_rfl) (by kernel_rfl) (fun _ _ _ h => h) (by rfl) (fun W hSw => by obtain ⟨⟨a0, b0⟩, -, -, -, -, -, -, -, -⟩ := hSw; go_simp) hS1 ?_
              simp only [Act.put, List.setIfInBounds_toArray, List.set_cons_zero, List.set_cons_succ]
              refine take_at 16 (some 157) (.agg #[.bool o4, .int .i64 n4]) rfl rfl (by kernel_rfl) (by kernel_rfl) (by kernel_rfl) (fun _ _ _ h => h) (by rfl) (fun W hSw => by obtain ⟨-, -, -, -, ⟨a4, b4⟩, -, -, -, -⟩ := hSw; go_simp) hS1 ?_
              simp only [Act.put, List.setIfInBounds_toArray, List.set_cons_zero, List.set_cons_succ]
              refine wpAnyH_ready (rs := [17]) (by kernel_rfl) (by simp) ?_
              refine AllReadyH.cons rfl (fun K hK => ?_) AllReadyH.nil
              go_simp
              refine (hdiv _).mono ?_
              rintro e y2 ⟨rfl, hy2⟩
              have hc2 := Below.chain hc1 hy2
              have hS2 := HSS.out _ hc2
              refine hK.out _ _ hS2 (fun _ => ?_)
              clear hK K
              refine take_at 18 (some 159) (.bool true) rfl rfl (by kernel_rfl) (by kernel_rfl) (by kernel_rfl) (fun _ _ _ h => h) (by rfl) (fun W hSw => by clear hSw; exact num_eql _ _ _ _ o1 n1 rfl rfl rfl W) hS2 ?_
              simp only [Act.put, List.setIfInBounds_toArray, List.set_cons_zero, List.set_cons_succ]
              refine take_at 19 (some 160) (.bool true) rfl rfl (by kernel_rfl) (by kernel_rfl) (by kernel_rfl) (fun _ _ _ h => h) (by rfl) (fun W hSw => by clear hSw; go_simp) hS2 ?_
              simp only [Act.put, List.setIfInBounds_toArray, List.set_cons_zero, List.set_cons_succ]
              refine take_at 20 (some 161) (.bool true) rfl rfl (by kernel_rfl) (by kernel_rfl) (by kernel_rfl) (fun _ _ _ h => h) (by rfl) (fun W hSw => by clear hSw; go_simp) hS2 ?_
              simp only [Act.put, List.setIfInBounds_toArray, List.set_cons_zero, List.set_cons_succ]
              refine take_at 21 (some 162) (.agg #[.bool o2, .int .i64 n2]) rfl rfl (by kernel_rfl) (by kernel_rfl) (by kernel_rfl) (fun _ _ _ h => h) (by rfl) (fun W hSw => by obtain ⟨-, -, ⟨a2, b2⟩, -, -, -, -, -, -⟩ := hSw; go_simp) hS2 ?_
              simp only [Act.put, List.setIfInBounds_toArray, List.set_cons_zero, List.set_cons_succ]
              refine take_at 22 (some 163) (.agg #[.bool o3, .int .i64 n3]) rfl rfl (by kernel_rfl) (by kernel_rfl) (by kernel_rfl) (fun _ _ _ h => h) (by rfl) (fun W hSw => by obtain ⟨-, -, -, ⟨a3, b3⟩, -, -, -, -, -⟩ := hSw; go_simp) hS2 ?_
              simp only [Act.put, List.setIfInBounds_toArray, List.set_cons_zero, List.set_cons_succ]
              refine wpAnyH_ready (rs := [23]) (by kernel_rfl) (by simp) ?_
              refine AllReadyH.cons rfl (fun K hK => ?_) AllReadyH.nil
              go_simp
              refine (hcmp _).mono ?_
              rintro e y3 ⟨rfl, hy3⟩
              have hc3 := Below.chain hc2 hy3
              have hS3 := HSS.out _ hc3
              refine hK.out _ _ hS3 (fun _ => ?_)
              clear hK K
              refine take_at 24 (some 165) (.bool true) rfl rfl (by kernel_rfl) (by kernel_rfl) (by kernel_rfl) (fun _ _ _ h => h) (by rfl) (fun W hSw => by clear hSw; go_simp) hS3 ?_
              simp only [Act.put, List.setIfInBounds_toArray, List.set_cons_zero, List.set_cons_succ]
              refine take_at 25 (some 166) (.bool true) rfl rfl (by kernel_rfl) (by kernel_rfl) (by kernel_rfl) (fun _ _ _ h => h) (by rfl) (fun W hSw => by clear hSw; go_simp) hS3 ?_
              simp only [Act.put, List.setIfInBounds_toArray, List.set_cons_zero, List.set_cons_succ]
              refine take_at 26 (some 167) (.bool true) rfl rfl (by kernel_rfl) (by kernel_rfl) (by kernel_rfl) (fun _ _ _ h => h) (by rfl) (fun W hSw => by clear hSw; go_simp) hS3 ?_
              simp only [Act.put, List.setIfInBounds_toArray, List.set_cons_zero, List.set_cons_succ]
              refine take_at 27 (some 168) (.agg #[.bool o5, .int .i64 n5]) rfl rfl (by kernel_rfl) (by kernel_rfl) (by kernel_rfl) (fun _ _ _ h => h) (by rfl) (fun W hSw => by obtain ⟨-, -, -, -, -, ⟨a5, b5⟩, -, -, -⟩ := hSw; go_simp) hS3 ?_
              simp only [Act.put, List.setIfInBounds_toArray, List.set_cons_zero, List.set_cons_succ]
              refine take_at 28 (some 169) (.slice (some ⟨qb, qo, none⟩) (p + 1) uc) rfl rfl (by kernel_rfl) (by kernel_rfl) (by kernel_rfl) (fun _ _ _ h => h) (by rfl) (fun W hSw => by clear hSw; go_simp) hS3 ?_
              simp only [Act.put, List.setIfInBounds_toArray, List.set_cons_zero, List.set_cons_succ]
              refine take_at 29 (some 170) (.slice (some ⟨qb, qo, none⟩) (p + 1) uc) rfl rfl (by kernel_rfl) (by kernel_rfl) (by kernel_rfl) (fun _ _ _ h => h) (by rfl) (fun W hSw => by clear hSw; go_simp) hS3 ?_
              simp only [Act.put, List.setIfInBounds_toArray, List.set_cons_zero, List.set_cons_succ]
              refine take_at 30 (some 171) (.int .i64 ((p : Int) + 1)) rfl rfl (by kernel_rfl) (by kernel_rfl) (by kernel_rfl) (fun _ _ _ h => h) (by rfl) (fun W hSw => by clear hSw; go_simp) hS3 ?_
              simp only [Act.put, List.setIfInBounds_toArray, List.set_cons_zero, List.set_cons_succ]
              refine take_at 31 (some 172) (.int .i64 (p : Int)) rfl rfl (by kernel_rfl) (by kernel_rfl) (by kernel_rfl) (fun _ _ _ h => h) (by rfl) (fun W hSw => by clear hSw; go_simp; exact HWP.out) hS3 ?_
              simp only [Act.put, List.setIfInBounds_toArray, List.set_cons_zero, List.set_cons_succ]
              refine take_at 32 (some 173) (.pointer (some ⟨qb, qo + p * 3, none⟩)) rfl rfl (by kernel_rfl) (by kernel_rfl) (by kernel_rfl) (fun _ _ _ h => h) (by rfl) (fun W hSw => by clear hSw; go_simp; intro hx9; omega) hS3 ?_
              simp only [Act.put, List.setIfInBounds_toArray, List.set_cons_zero, List.set_cons_succ]
              refine take_at 33 (some 174) (.pointer (some ⟨qb, qo + p * 3 + 1, none⟩)) rfl rfl (by kernel_rfl) (by kernel_rfl) (by kernel_rfl) (fun _ _ _ h => h) (by rfl) (fun W hSw => by clear hSw; go_simp) hS3 ?_
              simp only [Act.put, List.setIfInBounds_toArray, List.set_cons_zero, List.set_cons_succ]
              refine take_at 34 (some 175) (.agg #[.bool o5, .int .i64 n5]) rfl rfl (by kernel_rfl) (by kernel_rfl) (by kernel_rfl) (fun _ _ _ h => h) (by rfl) (fun W hSw => by obtain ⟨-, -, -, -, -, -, -, -, ⟨a8, b8⟩⟩ := hSw; go_simp) hS3 ?_
              simp only [Act.put, List.setIfInBounds_toArray, List.set_cons_zero, List.set_cons_succ]
              refine take_at 35 (some 176) (.bool true) rfl rfl (by kernel_rfl) (by kernel_rfl) (by kernel_rfl) (fun _ _ _ h => h) (by rfl) (fun W hSw => by clear hSw; exact num_eql _ _ _ _ o5 n5 rfl rfl rfl W) hS3 ?_
              simp only [Act.put, List.setIfInBounds_toArray, List.set_cons_zero, List.set_cons_succ]
              refine take_at 36 (some 177) (.bool true) rfl rfl (by kernel_rfl) (by kernel_rfl) (by kernel_rfl) (fun _ _ _ h => h) (by rfl) (fun W hSw => by clear hSw; go_simp) hS3 ?_
              simp only [Act.put, List.setIfInBounds_toArray, List.set_cons_zero, List.set_cons_succ]
              refine take_at 37 (some 178) (.bool true) rfl rfl (by kernel_rfl) (by kernel_rfl) (by kernel_rfl) (fun _ _ _ h => h) (by rfl) (fun W hSw => by clear hSw; go_simp) hS3 ?_
              simp only [Act.put, List.setIfInBounds_toArray, List.set_cons_zero, List.set_cons_succ]
              refine take_at 38 (some 179) (.bool true) rfl rfl (by kernel_rfl) (by kernel_rfl) (by kernel_rfl) (fun _ _ _ h => h) (by rfl) (fun W hSw => by clear hSw; go_simp) hS3 ?_
              simp only [Act.put, List.setIfInBounds_toArray, List.set_cons_zero, List.set_cons_succ]
              refine take_at 39 (some 180) (.slice (some ⟨qb, qo, none⟩) (p + 1) uc) rfl rfl (by kernel_rfl) (by kernel_rfl) (by kernel_rfl) (fun _ _ _ h => h) (by rfl) (fun W hSw => by clear hSw; go_simp) hS3 ?_
              simp only [Act.put, List.setIfInBounds_toArray, List.set_cons_zero, List.set_cons_succ]
              refine take_at 40 (some 181) (.int .i64 ((p : Int) + 1)) rfl rfl (by kernel_rfl) (by kernel_rfl) (by kernel_rfl) (fun _ _ _ h => h) (by rfl) (fun W hSw => by clear hSw; go_simp) hS3 ?_
              simp only [Act.put, List.setIfInBounds_toArray, List.set_cons_zero, List.set_cons_succ]
              refine take_at 41 (some 182) (.bool true) rfl rfl (by kernel_rfl) (by kernel_rfl) (by kernel_rfl) (fun _ _ _ h => h) (by rfl) (fun W hSw => by clear hSw; go_simp) hS3 ?_
              simp only [Act.put, List.setIfInBounds_toArray, List.set_cons_zero, List.set_cons_succ]
              refine take_at 42 (some 183) (.bool true) rfl rfl (by kernel_rfl) (by kernel_rfl) (by kernel_rfl) (fun _ _ _ h => h) (by rfl) (fun W hSw => by clear hSw; go_simp) hS3 ?_
              simp only [Act.put, List.setIfInBounds_toArray, List.set_cons_zero, List.set_cons_succ]
              refine take_at 43 (some 184) (.bool true) rfl rfl (by kernel_rfl) (by kernel_rfl) (by kernel_rfl) (fun _ _ _ h => h) (by rfl) (fun W hSw => by clear hSw; go_simp) hS3 ?_
              simp only [Act.put, List.setIfInBounds_toArray, List.set_cons_zero, List.set_cons_succ]
              refine take_at 44 (some 185) (.bool true) rfl rfl (by kernel_rfl) (by kernel_rfl) (by kernel_rfl) (fun _ _ _ h => h) (by rfl) (fun W hSw => by clear hSw; go_simp) hS3 ?_
              simp only [Act.put, List.setIfInBounds_toArray, List.set_cons_zero, List.set_cons_succ]
              refine take_at 45 (some 186) (.bool true) rfl rfl (by kernel_rfl) (by kernel_rfl) (by kernel_rfl) (fun _ _ _ h => h) (by rfl) (fun W hSw => by clear hSw; go_simp) hS3 ?_
              simp only [Act.put, List.setIfInBounds_toArray, List.set_cons_zero, List.set_cons_succ]
              refine take_at 46 (some 187) (.bool true) rfl rfl (by kernel_rfl) (by kernel_rfl) (by kernel_rfl) (fun _ _ _ h => h) (by rfl) (fun W hSw => by clear hSw; go_simp) hS3 ?_
              simp only [Act.put, List.setIfInBounds_toArray, List.set_cons_zero, List.set_cons_succ]
              refine take_at 47 (some 188) (.bool true) rfl rfl (by kernel_rfl) (by kernel_rfl) (by kernel_rfl) (fun _ _ _ h => h) (by rfl) (fun W hSw => by clear hSw; go_simp) hS3 ?_
              simp only [Act.put, List.setIfInBounds_toArray, List.set_cons_zero, List.set_cons_succ]
              refine take_at 48 (some 189) (.bool true) rfl rfl (by kernel_rfl) (by kernel_rfl) (by kernel_rfl) (fun _ _ _ h => h) (by rfl) (fun W hSw => by clear hSw; go_simp) hS3 ?_
              simp only [Act.put, List.setIfInBounds_toArray, List.set_cons_zero, List.set_cons_succ]
              refine take_at 49 (some 190) (.bool true) rfl rfl (by kernel_rfl) (by kernel_rfl) (by kernel_rfl) (fun _ _ _ h => h) (by rfl) (fun W hSw => by clear hSw; go_simp) hS3 ?_
              simp only [Act.put, List.setIfInBounds_toArray, List.set_cons_zero, List.set_cons_succ]
              refine take_at 50 (some 191) (.bool true) rfl rfl (by kernel_rfl) (by kernel_rfl) (by kernel_rfl) (fun _ _ _ h => h) (by rfl) (fun W hSw => by clear hSw; go_simp) hS3 ?_
              simp only [Act.put, List.setIfInBounds_toArray, List.set_cons_zero, List.set_cons_succ]
              refine take_at 51 (some 192) (.bool false) rfl rfl (by kernel_rfl) (by kernel_rfl) (by kernel_rfl) (fun _ _ _ h => h) (by rfl) (fun W hSw => by clear hSw; go_simp) hS3 ?_
              simp only [Act.put, List.setIfInBounds_toArray, List.set_cons_zero, List.set_cons_succ]
              refine take_at 52 (some 193) (.bool false) rfl rfl (by kernel_rfl) (by kernel_rfl) (by kernel_rfl) (fun _ _ _ h => h) (by rfl) (fun W hSw => by clear hSw; go_simp) hS3 ?_
              simp only [Act.put, List.setIfInBounds_toArray, List.set_cons_zero, List.set_cons_succ]
              refine take_at 53 (some 194) (.agg #[.bool o7, .int .i64 n7]) rfl rfl (by kernel_rfl) (by kernel_rfl) (by kernel_rfl) (fun _ _ _ h => h) (by rfl) (fun W hSw => by obtain ⟨-, -, -, -, -, -, -, ⟨a7, b7⟩, -⟩ := hSw; go_simp) hS3 ?_
              simp only [Act.put, List.setIfInBounds_toArray, List.set_cons_zero, List.set_cons_succ]
              refine take_at 54 (some 195) (.agg #[.bool o6, .int .i64 n6]) rfl rfl (by kernel_rfl) (by kernel_rfl) (by kernel_rfl) (fun _ _ _ h => h) (by rfl) (fun W hSw => by obtain ⟨-, -, -, -, -, -, ⟨a6, b6⟩, -, -⟩ := hSw; go_simp) hS3 ?_
              simp only [Act.put, List.setIfInBounds_toArray, List.set_cons_zero, List.set_cons_succ]
              refine take_at 55 (some 196) (.int .i64 k) rfl rfl (by kernel_rfl) (by kernel_rfl) (by kernel_rfl) (fun _ _ _ h => h) (by rfl) (fun W hSw => by clear hSw; go_simp) hS3 ?_
              simp only [Act.put, List.setIfInBounds_toArray, List.set_cons_zero, List.set_cons_succ]
              refine wpAnyH_ready (rs := [56]) (by kernel_rfl) (by simp) ?_
              refine AllReadyH.cons rfl (fun K hK => ?_) AllReadyH.nil
              go_simp
              refine (hofk _).mono ?_
              rintro e y4 ⟨rfl, hy4⟩
              have hc4 := Below.chain hc3 hy4
              have hS4 := HSS.out _ hc4
              refine hK.out _ _ hS4 (fun _ => ?_)
              clear hK K
              refine wpAnyH_ready (rs := [57]) (by kernel_rfl) (by simp) ?_
              refine AllReadyH.cons rfl (fun K hK => ?_) AllReadyH.nil
              go_simp
              refine (hdr _).mono ?_
              rintro e y5 ⟨rfl, hy5⟩
              have hc5 := Below.chain hc4 hy5
              have hS5 := HSS.out _ hc5
              refine hK.out _ _ hS5 (fun _ => ?_)
              clear hK K
              refine take_at 58 (some 199) (.bool true) rfl rfl (by kernel_rfl) (by kernel_rfl) (by kernel_rfl) (fun _ _ _ h => h) (by rfl) (fun W hSw => by clear hSw; exact num_eql _ _ _ _ o7 n7 rfl rfl rfl W) hS5 ?_
              simp only [Act.put, List.setIfInBounds_toArray, List.set_cons_zero, List.set_cons_succ]
              refine take_at 59 (some 200) (.bool true) rfl rfl (by kernel_rfl) (by kernel_rfl) (by kernel_rfl) (fun _ _ _ h => h) (by rfl) (fun W hSw => by clear hSw; go_simp) hS5 ?_
              simp only [Act.put, List.setIfInBounds_toArray, List.set_cons_zero, List.set_cons_succ]
              refine take_at 60 (some 201) (.bool true) rfl rfl (by kernel_rfl) (by kernel_rfl) (by kernel_rfl) (fun _ _ _ h => h) (by rfl) (fun W hSw => by clear hSw; go_simp) hS5 ?_
              simp only [Act.put, List.setIfInBounds_toArray, List.set_cons_zero, List.set_cons_succ]
              refine take_at 61 (some 6) (.bool true) rfl rfl (by kernel_rfl) (by kernel_rfl) (by kernel_rfl) (fun _ _ _ h => h) (by rfl) (fun W hSw => by clear hSw; go_simp) hS5 ?_
              simp only [Act.put, List.setIfInBounds_toArray, List.set_cons_zero, List.set_cons_succ]
              refine wpAnyH_done (by kernel_rfl) ?_ _
              refine NoPanic.normal ?_
              go_wp2
              go_ret
              exact ⟨rfl, Below.chain hbf hc5⟩
end Go.Proofs.YtjgckfcocmhnhaaGreatDoor.Sr
