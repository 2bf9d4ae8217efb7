/- RingForgets: the walk. -/
import Derived.Test.YtchopogodfghoaaRSame
import Derived.Test.YtchopogodfghoaaSums
namespace Go.Proofs.Ytchopogodfghoaa
open Go.RowKit

/-- All before t. -/
def Bef (l : List Smp) (t : Int) : Prop := ∀ s ∈ l, s.1 < t
theorem Bef.fg {l : List Smp} {t : Int} (h : Bef l t) (u : Int) : Bef (fg u l) t := fun s hs => h s ((fg_sub u l).subset hs)
theorem bef_adE {l : List Smp} {k t : Int} (h : Bef l t) (ht : 0 ≤ t) (hk : 1 ≤ k) : adE l k t t = 0 := by
  unfold adE
  rw [if_neg (by omega), if_neg]
  rintro ⟨h1, h2⟩
  have := h _ (lst_mem h1)
  omega
theorem bef_adL {l : List Smp} {k t : Int} (h : Bef l t) (ht : 0 ≤ t) (hk : 1 ≤ k) (x : Bool × Int) : adL l k t (t, x) = l ++ [nrm (t, x)] := by
  unfold adL
  rw [if_pos (bef_adE h ht hk)]
theorem Bef.add {l : List Smp} {t : Int} (h : Bef l t) (x : Bool × Int) : Bef (l ++ [nrm (t, x)]) (t + 1) := by
  intro s hs
  rcases List.mem_append.1 hs with hs | hs
  · have := h s hs
    omega
  · obtain rfl : s = nrm (t, x) := by simpa using hs
    show t < t + 1
    omega
theorem fg_none (u : Int) : ∀ l : List Smp, (∀ s ∈ l, s.1 ≤ u) → fg u l = []
  | [], _ => rfl
  | s :: r, h => by
    show (if s.1 ≤ u then _ else _) = _
    rw [if_pos (h s List.mem_cons_self)]
    exact fg_none u r (fun x hx => h x (List.mem_cons_of_mem _ hx))
/-- A step of a window, time going on, a sample added at that time. -/
theorem step_nums (k t now : Int) (l : List Smp) (hk : 1 ≤ k) (ht : 0 ≤ t ∧ t ≤ 1000) (hn : now ≤ t) (h : Bef l t) (x : Bool × Int) :
    onw now t = t ∧ adE (fg (t - k) l) k t t = 0 ∧ adL (fg (t - k) l) k t (t, x) = fg (t - k) l ++ [nrm (t, x)] ∧ Bef (fg (t - k) l ++ [nrm (t, x)]) (t + 1) :=
  ⟨onw_to hn (by omega), bef_adE (h.fg _) ht.1 hk, bef_adL (h.fg _) ht.1 hk x, (h.fg _).add x⟩
theorem adv_to (b : Nat) (l : List Smp) (k now t : Int) (w : World) (h : St w b l k now) (ht : 0 ≤ t ∧ t ≤ 1000) (hn : now ≤ t) :
    Calls Try.prog 10 #[.pointer (some ⟨b, 0, none⟩), .int .i64 t] w fun e w' => e = .returned (.tuple #[]) ∧ St w' b (fg (t - k) l) k t ∧ w.grownBy w' (some b) := by
  have := adv_st b l k now t w h
  rw [onw_to hn (by omega)] at this
  exact this
theorem add_to (b : Nat) (l : List Smp) (k t : Int) (x : Bool × Int) (w : World) (h : St w b l k t) (ht : 0 ≤ t) (hB : Bef l t) (hr : R64 x.2) :
    Calls Try.prog 12 #[.pointer (some ⟨b, 0, none⟩), .agg #[.int .i64 t, .bool x.1, .int .i64 x.2]] w fun e w' => e = .returned (.int .i64 0) ∧ St w' b (l ++ [nrm (t, x)]) k t ∧ w.grownBy w' (some b) := by
  have := add_st b l k t (t, x) w h hr
  rw [bef_adL hB ht h.f.k1.1 x, show ((t, x) : Smp).1 = t from rfl, bef_adE hB ht h.f.k1.1] at this
  exact this
theorem Ns.keptB {w w' : World} {ao : Option Addr} {n : Nat} {l : List (Bool × Int)} (h : Ns w ao n l) (hb : Below w.heap.size w w') : Ns w' ao n l := h.laterS hb
/-- Two windows that tell the same from 200 + i on. -/
structure Two (La Lb : List Smp) (na nb : Int) (k : Nat) (i : Nat) : Prop where
  a : Bef La (200 + (i : Int))
  b : Bef Lb (200 + (i : Int))
  na : na ≤ 199 + (i : Int)
  nb : nb ≤ 199 + (i : Int)
  e : fg (200 + (i : Int) - k) La = fg (200 + (i : Int) - k) Lb
theorem Two.start {L : List Smp} {n0 : Int} {k : Nat} (h : Bef L 100) (hn : n0 ≤ 199) (hk : k ≤ 60) : Two L [] n0 0 k 0 :=
  ⟨fun s hs => by have := h s hs; omega, (by intro s hs; cases hs), by omega, by omega, by rw [fg_none _ L (fun s hs => by have := h s hs; omega)]; rfl⟩
theorem Two.next {L : List Smp} {k i : Nat} (h : Bef L (200 + (i : Int) + 1)) : Two L L (200 + (i : Int)) (200 + (i : Int)) k (i + 1) :=
  ⟨fun s hs => by have := h s hs; omega, fun s hs => by have := h s hs; omega, by omega, by omega, rfl⟩
theorem avg_st (l : List Smp) : ∃ (o : Bool) (m : Int) (c : Bool), ∀ (W : World) (b : Nat) (k now : Int), St W b l k now → Calls Try.prog 15 #[.pointer (some ⟨b, 0, none⟩)] W fun e w' => e = .returned (.tuple #[.agg #[.bool o, .int .i64 m], .bool c]) ∧ Below W.heap.size W w' := by
  cases h : l.isEmpty with
  | true =>
    refine ⟨false, 0, false, fun W b k now hW => ?_⟩
    have := avg_any b l k now W hW.m hW.f.rg
    rw [if_pos h] at this
    exact this
  | false =>
    refine ⟨ov (avgP l), nn (avgP l), true, fun W b k now hW => ?_⟩
    have := avg_any b l k now W hW.m hW.f.rg
    rw [h, if_neg (by decide)] at this
    exact this
set_option maxRecDepth 20000 in
set_option maxHeartbeats 8000000 in
theorem forgets_any (xa : Option Addr) (nx cx : Nat) (lx : List (Bool × Int)) (ya : Option Addr) (ny cy : Nat) (ly : List (Bool × Int)) (N : Nat) (w : World) (hmx : nx ≤ maxLen) (hmy : ny ≤ maxLen) (hN : N ≤ 255)
    (hsx : Ns w xa nx lx) (hlx : ∀ x ∈ lx, R64 x.2) (hsy : Ns w ya ny ly) (hly : ∀ x ∈ ly, R64 x.2) :
    Calls Try.prog 4 #[.slice xa nx cx, .slice ya ny cy, .int .u8 N] w fun e w' => e = .returned (.bool true) ∧ Below w.heap.size w w' := by
  unfold maxLen at hmx hmy
  rcases (by omega : 50 < nx ∨ (nx ≤ 50 ∧ 50 < ny) ∨ (nx ≤ 50 ∧ ny ≤ 50)) with h | ⟨h, h'⟩ | ⟨h, h'⟩
  · have d1 : decide ((50 : Int) < (nx : Int)) = true := decide_eq_true (by omega)
    go_enter Try.func4, Try.ntmps4
    go_wp2_with fail
    refine (known_any _).mono ?_
    rintro e w1 ⟨rfl, hb1⟩
    go_wp2
    go_ret
    exact ⟨rfl, hb1⟩
  · have d1 : decide ((50 : Int) < (nx : Int)) = false := decide_eq_false (by omega)
    have d2 : decide ((50 : Int) < (ny : Int)) = true := decide_eq_true (by omega)
    go_enter Try.func4, Try.ntmps4
    go_wp2_with fail
    refine (known_any _).mono ?_
    rintro e w1 ⟨rfl, hb1⟩
    go_wp2
    go_ret
    exact ⟨rfl, hb1⟩
  · have d1 : decide ((50 : Int) < (nx : Int)) = false := decide_eq_false (by omega)
    have d2 : decide ((50 : Int) < (ny : Int)) = false := decide_eq_false (by omega)
    obtain ⟨hnx, hcx⟩ := hsx
    obtain ⟨hny, hcy⟩ := hsy
    have HXL : Hid (lx.length = nx) := hnx
    have HYL : Hid (ly.length = ny) := hny
    have HCX : Hid (∀ j, j < nx → ∃ b off, xa = some ⟨b, off, none⟩ ∧ ∀ W, Below w.heap.size w W → W.cell? ⟨b, off + j * 2, none⟩ = some (.bool (lx.getD j (false, 0)).1) ∧ W.cell? ⟨b, off + j * 2 + 1, none⟩ = some (.int .i64 (lx.getD j (false, 0)).2)) := by
      intro j hj
      obtain ⟨b, off, e, hc⟩ := hcx (by omega)
      obtain ⟨c0, c1⟩ := hc j hj
      exact ⟨b, off, e, fun W hW => ⟨(hW.cell (World.block_lt_of_cell? _ _ c0)).trans c0, (hW.cell (World.block_lt_of_cell? _ _ c1)).trans c1⟩⟩
    have HCY : Hid (∀ j, j < ny → ∃ b off, ya = some ⟨b, off, none⟩ ∧ ∀ W, Below w.heap.size w W → W.cell? ⟨b, off + j * 2, none⟩ = some (.bool (ly.getD j (false, 0)).1) ∧ W.cell? ⟨b, off + j * 2 + 1, none⟩ = some (.int .i64 (ly.getD j (false, 0)).2)) := by
      intro j hj
      obtain ⟨b, off, e, hc⟩ := hcy (by omega)
      obtain ⟨c0, c1⟩ := hc j hj
      exact ⟨b, off, e, fun W hW => ⟨(hW.cell (World.block_lt_of_cell? _ _ c0)).trans c0, (hW.cell (World.block_lt_of_cell? _ _ c1)).trans c1⟩⟩
    clear hcx hcy hnx hny
    go_enter Try.func4, Try.ntmps4
    go_wp2_with fail
    refine (known_any _).mono ?_
    rintro e w1 ⟨rfl, hb1⟩
    go_wp2_with fail
    obtain ⟨k, hk⟩ : ∃ k : Nat, (k : Int) = (N : Int) % 60 + 1 := ⟨N % 60 + 1, by omega⟩
    have k1 : 1 ≤ k ∧ k ≤ 60 := by omega
    have hck : clamp (k : Int) = k := by unfold clamp; rw [if_neg (by omega), if_neg (by omega)]
    rw [← hk]
    clear hk hN
    refine (new_st (k : Int) _).mono ?_
    rw [hck]
    rintro e w2 ⟨rfl, hs2, hb2⟩
    have ha0 : w.heap.size ≤ w1.heap.size := hb1.size
    have hb2' := Below.chain hb1 hb2
    clear hb1 hb2
    generalize w1.heap.size = a at *
    have hal := hs2.m.lt
    go_wp2_with fail
    refine (new_st (k : Int) _).mono ?_
    rw [hck]
    rintro e w3 ⟨rfl, ht3, hb3⟩
    have hs3 := hs2.later hb3
    have hb3' := Below.chain hb2' hb3
    have hb0 : w.heap.size ≤ w2.heap.size := by omega
    have hab : a ≠ w2.heap.size := by omega
    clear hs2 hb2' hb3 hal hck
    generalize w2.heap.size = b at *
    go_wp2_with fail
    go_loopw [10] (fun t wr => ∃ (j : Nat) (L : List Smp), j ≤ nx ∧ t = .int .i64 j ∧ St wr a L k ((j - 1 : Nat) : Int) ∧ St wr b [] k 0 ∧ Hid (Bef L j) ∧ Below w.heap.size w wr) (fun t _ => nx - (intOf t).toNat)
    case atStart => exact ⟨0, [], by omega, rfl, hs3, ht3, (by intro s hs; cases hs), hb3'⟩
    case round =>
      obtain ⟨j, L, hj, rfl, hsa, hsb, HB, hb⟩ := hrel
      by_cases hlt : j < nx
      · have hd : decide ((j : Int) < (nx : Int)) = true := decide_eq_true (by omega)
        obtain ⟨xb, off, rfl, hcell⟩ := HCX.out j hlt
        have HC : Hid (∀ W, Below w.heap.size w W → W.cell? ⟨xb, off + j * 2, none⟩ = some (.bool (lx.getD j (false, 0)).1) ∧ W.cell? ⟨xb, off + j * 2 + 1, none⟩ = some (.int .i64 (lx.getD j (false, 0)).2)) := hcell
        have hxr := hlx _ (getD_mem (l := lx) (j := j) (by rw [HXL.out]; exact hlt))
        have hadv := adv_to a L k _ (j : Int) wr hsa (by omega) (by omega)
        have HN := (HB.out.fg ((j : Int) - k)).add (lx.getD j (false, 0))
        have HF := HB.out.fg ((j : Int) - k)
        have HNX : Hid (Bef (fg ((j : Int) - k) L ++ [nrm ((j : Int), lx.getD j (false, 0))]) ((j + 1 : Nat) : Int)) := HN
        clear hcell hsa HN
        generalize fg ((j : Int) - k) L = L1 at *
        generalize lx.getD j (false, 0) = x at *
        obtain ⟨xo, xn⟩ := x
        dsimp only at *
        go_wp2_with fail
        refine hadv.mono ?_
        rintro e w4 ⟨rfl, hs4, hg4⟩
        have hb4 := grown_above hb hg4 hb.size ha0
        have ht4 := hsb.kept hg4 (by simp; omega)
        have hadd := add_to a L1 k (j : Int) (xo, xn) w4 hs4 (by omega) HF hxr
        obtain ⟨x0, x1⟩ := HC.out _ hb4
        clear hadv hg4 hb hsb hs4
        go_wp2_with fail
        refine hadd.mono ?_
        rintro e w5 ⟨rfl, hs5, hg5⟩
        have hb5 := grown_above hb4 hg5 hb4.size ha0
        have ht5 := ht4.kept hg5 (by simp; omega)
        clear hadd hg5 ht4 x0 x1
        go_wp2
        go_roundw
        case rel => exact ⟨j + 1, _, hlt, by go_num, hs5, ht5, HNX, hb5⟩
        case measure => simp [intOf]; omega
      · have hd : decide ((j : Int) < (nx : Int)) = false := decide_eq_false (by omega)
        have HB1 : Hid (Bef L 100) := fun s hs => by have := HB.out s hs; omega
        have hnw : ((j - 1 : Nat) : Int) ≤ 199 := by omega
        generalize ((j - 1 : Nat) : Int) = nw0 at *
        clear HB
        go_wp2_with fail
        go_loopw [11] (fun t wr => ∃ (i : Nat) (La Lb : List Smp) (na nb : Int), i ≤ ny ∧ t = .int .i64 i ∧ St wr a La k na ∧ St wr b Lb k nb ∧ Hid (Two La Lb na nb k i) ∧ Below w.heap.size w wr) (fun t _ => ny - (intOf t).toNat)
        case atStart => exact ⟨0, L, [], nw0, 0, by omega, rfl, hsa, hsb, Two.start HB1.out hnw k1.2, hb⟩
        case round =>
          obtain ⟨i, La, Lb, na, nb, hi, rfl, hA, hB, HT, hb⟩ := hrel
          by_cases hlt2 : i < ny
          · have hd2 : decide ((i : Int) < (ny : Int)) = true := decide_eq_true (by omega)
            obtain ⟨yb, off, rfl, hcell⟩ := HCY.out i hlt2
            have HC : Hid (∀ W, Below w.heap.size w W → W.cell? ⟨yb, off + i * 2, none⟩ = some (.bool (ly.getD i (false, 0)).1) ∧ W.cell? ⟨yb, off + i * 2 + 1, none⟩ = some (.int .i64 (ly.getD i (false, 0)).2)) := hcell
            have hyr := hly _ (getD_mem (l := ly) (j := i) (by rw [HYL.out]; exact hlt2))
            have hadA := adv_to a La k na (200 + (i : Int)) wr hA (by omega) (by have := HT.out.na; omega)
            have hadB := fun W hW => adv_to b Lb k nb (200 + (i : Int)) W hW (by omega) (by have := HT.out.nb; omega)
            rw [← HT.out.e] at hadB
            have HF := HT.out.a.fg (200 + (i : Int) - k)
            have HNX : Hid (Bef (fg (200 + (i : Int) - k) La ++ [nrm (200 + (i : Int), ly.getD i (false, 0))]) (200 + (i : Int) + 1)) := HF.add _
            have ew : wrap64 (200 + (i : Int)) = 200 + (i : Int) := wf64 (by omega) (by omega)
            have ht0 : (0 : Int) ≤ 200 + (i : Int) := by omega
            clear hcell hA
            generalize fg (200 + (i : Int) - k) La = L1 at *
            generalize ly.getD i (false, 0) = y at *
            obtain ⟨yo, yn⟩ := y
            dsimp only at *
            go_wp2_with fail
            refine hadA.mono ?_
            rintro e w4 ⟨rfl, hs4, hg4⟩
            have hb4 := grown_above hb hg4 hb.size ha0
            have ht4 := hB.kept hg4 (by simp; omega)
            clear hadA hg4 hb hB
            go_wp2_with fail
            refine (hadB _ ht4).mono ?_
            rintro e w5 ⟨rfl, ht5, hg5⟩
            have hb5 := grown_above hb4 hg5 hb4.size hb0
            have hs5 := hs4.kept hg5 (by simp; omega)
            obtain ⟨x0, x1⟩ := HC.out _ hb5
            have haA := add_to a L1 k (200 + (i : Int)) (yo, yn) w5 hs5 ht0 HF hyr
            clear hadB hg5 hb4 ht4 hs4 hs5
            go_wp2_with fail
            refine haA.mono ?_
            rintro e w6 ⟨rfl, hs6, hg6⟩
            have hb6 := grown_above hb5 hg6 hb5.size ha0
            have ht6 := ht5.kept hg6 (by simp; omega)
            have haB := add_to b L1 k (200 + (i : Int)) (yo, yn) w6 ht6 ht0 HF hyr
            clear x0 x1
            obtain ⟨x0, x1⟩ := HC.out _ hb6
            clear haA hg6 hb5 ht5 ht6
            go_wp2_with fail
            refine haB.mono ?_
            rintro e w7 ⟨rfl, ht7, hg7⟩
            have hb7 := grown_above hb6 hg7 hb6.size hb0
            have hs7 := hs6.kept hg7 (by simp; omega)
            clear haB hg7 x0 x1
            go_wp2
            go_roundw
            case rel => exact ⟨i + 1, _, _, _, _, hlt2, by go_num, hs7, ht7, Two.next HNX.out, hb7⟩
            case measure => simp [intOf]; omega
          · have hd2 : decide ((i : Int) < (ny : Int)) = false := decide_eq_false (by omega)
            obtain rfl : i = ny := by omega
            have hadA := adv_to a La k na (200 + (i : Int)) wr hA (by omega) (by have := HT.out.na; omega)
            have hadB := fun W hW => adv_to b Lb k nb (200 + (i : Int)) W hW (by omega) (by have := HT.out.nb; omega)
            rw [← HT.out.e] at hadB
            have ew : wrap64 (200 + (i : Int)) = 200 + (i : Int) := wf64 (by omega) (by omega)
            clear hA
            generalize fg (200 + (i : Int) - k) La = L1 at *
            go_wp2_with fail
            refine hadA.mono ?_
            rintro e w4 ⟨rfl, hs4, hg4⟩
            have hb4 := grown_above hb hg4 hb.size ha0
            have ht4 := hB.kept hg4 (by simp; omega)
            clear hadA hg4 hb hB
            go_wp2_with fail
            refine (hadB _ ht4).mono ?_
            rintro e w5 ⟨rfl, ht5, hg5⟩
            have hb5 := grown_above hb4 hg5 hb4.size hb0
            have hs5 := hs4.kept hg5 (by simp; omega)
            clear hadB hg5 hb4 ht4 hs4 HT
            generalize (200 + (i : Int)) = tt at *
            obtain ⟨o, m, c, hav⟩ := avg_st L1
            have hsu := fun W q (hW : St W q L1 k tt) => sumR_any q L1 k tt W hW.m hW.f.rg
            generalize ov (fSum (cnts (vls L1))) = so at *
            generalize nn (fSum (cnts (vls L1))) = sn at *
            have HLE : Hid (L1.length ≤ k) := by have := hs5.f.len; show L1.length ≤ k; omega
            go_wp2_with fail
            refine (hav _ a k tt hs5).mono ?_
            rintro e w6 ⟨rfl, hb6⟩
            have hs6 := (hs5.later hb6).later (bal (Below.refl _ _) (.cells #[.bool o, .int .i64 m] 31))
            have ht6 := (ht5.later hb6).later (bal (Below.refl _ _) (.cells #[.bool o, .int .i64 m] 31))
            have hx6 := Box.new w6 o m
            have hb6' := bal (Below.chain hb5 hb6) (.cells #[.bool o, .int .i64 m] 31)
            go_wp2_with fail
            generalize w6.alloc (.cells #[.bool o, .int .i64 m] 31) = w6a at *
            refine (hav _ b k tt ht6).mono ?_
            rintro e w7 ⟨rfl, hb7⟩
            have hs7 := (hs6.later hb7).later (bal (Below.refl _ _) (.cells #[.bool o, .int .i64 m] 31))
            have ht7 := (ht6.later hb7).later (bal (Below.refl _ _) (.cells #[.bool o, .int .i64 m] 31))
            have hx7 := (hx6.later hb7).later (bal (Below.refl _ _) (.cells #[.bool o, .int .i64 m] 31))
            have hy7 := Box.new w7 o m
            have hb7' := bal (Below.chain hb6' hb7) (.cells #[.bool o, .int .i64 m] 31)
            go_wp2_with fail
            generalize w7.alloc (.cells #[.bool o, .int .i64 m] 31) = w8 at *
            have hs0r := hs7.later (Below.refl _ _).drew
            have ht0r := ht7.later (Below.refl _ _).drew
            have hx0 := hx7.later (Below.refl _ _).drew
            have hy0 := hy7.later (Below.refl _ _).drew
            have hw0 := hb7'.trans (Below.refl _ _).drew
            clear hs5 ht5 hb5 hb6 hs6 ht6 hx6 hb6' hb7 hs7 ht7 hx7 hy7 hb7'
            have hS0 : (fun W : World => W.cell? ⟨w6.heap.size, 0, none⟩ = some (Value.bool o) ∧ W.cell? ⟨w6.heap.size, 1, none⟩ = some (Value.int .i64 m) ∧ W.cell? ⟨w7.heap.size, 0, none⟩ = some (Value.bool o) ∧ W.cell? ⟨w7.heap.size, 1, none⟩ = some (Value.int .i64 m)) _ := ⟨hx0.c0, hx0.c1, hy0.c0, hy0.c1⟩
            refine wp_region_noPanic ?_
            refine wp_region_held_drew (S := fun W : World => W.cell? ⟨w6.heap.size, 0, none⟩ = some (Value.bool o) ∧ W.cell? ⟨w6.heap.size, 1, none⟩ = some (Value.int .i64 m) ∧ W.cell? ⟨w7.heap.size, 0, none⟩ = some (Value.bool o) ∧ W.cell? ⟨w7.heap.size, 1, none⟩ = some (Value.int .i64 m)) (by kernel_rfl) hS0 (fun _ => ?_)
            refine take_at 0 (some 111) (.pointer (some ⟨a, 0, none⟩)) rfl rfl (by kernel_rfl) (by kernel_rfl) (by kernel_rfl) (fun _ _ _ h => h) (by rfl) (fun W hSw => by obtain ⟨q0, q1, q2, q3⟩ := hSw; go_simp) hS0 ?_
            simp only [Act.put, List.setIfInBounds_toArray, List.set_cons_zero, List.set_cons_succ]
            refine take_at 1 (some 112) (.pointer (some ⟨a, 0, none⟩)) rfl rfl (by kernel_rfl) (by kernel_rfl) (by kernel_rfl) (fun _ _ _ h => h) (by rfl) (fun W hSw => by obtain ⟨q0, q1, q2, q3⟩ := hSw; go_simp) hS0 ?_
            simp only [Act.put, List.setIfInBounds_toArray, List.set_cons_zero, List.set_cons_succ]
            refine take_at 2 (some 113) (.pointer (some ⟨a, 0, none⟩)) rfl rfl (by kernel_rfl) (by kernel_rfl) (by kernel_rfl) (fun _ _ _ h => h) (by rfl) (fun W hSw => by obtain ⟨q0, q1, q2, q3⟩ := hSw; go_simp) hS0 ?_
            simp only [Act.put, List.setIfInBounds_toArray, List.set_cons_zero, List.set_cons_succ]
            refine take_at 4 (some 115) (.pointer (some ⟨b, 0, none⟩)) rfl rfl (by kernel_rfl) (by kernel_rfl) (by kernel_rfl) (fun _ _ _ h => h) (by rfl) (fun W hSw => by obtain ⟨q0, q1, q2, q3⟩ := hSw; go_simp) hS0 ?_
            simp only [Act.put, List.setIfInBounds_toArray, List.set_cons_zero, List.set_cons_succ]
            refine take_at 5 (some 116) (.pointer (some ⟨b, 0, none⟩)) rfl rfl (by kernel_rfl) (by kernel_rfl) (by kernel_rfl) (fun _ _ _ h => h) (by rfl) (fun W hSw => by obtain ⟨q0, q1, q2, q3⟩ := hSw; go_simp) hS0 ?_
            simp only [Act.put, List.setIfInBounds_toArray, List.set_cons_zero, List.set_cons_succ]
            refine take_at 6 (some 117) (.pointer (some ⟨b, 0, none⟩)) rfl rfl (by kernel_rfl) (by kernel_rfl) (by kernel_rfl) (fun _ _ _ h => h) (by rfl) (fun W hSw => by obtain ⟨q0, q1, q2, q3⟩ := hSw; go_simp) hS0 ?_
            simp only [Act.put, List.setIfInBounds_toArray, List.set_cons_zero, List.set_cons_succ]
            refine wpAnyH_ready (rs := [3]) (by kernel_rfl) (by simp) ?_
            refine AllReadyH.cons rfl (fun K hK => ?_) AllReadyH.nil
            go_simp
            refine (all_any a L1 k tt _ hs0r.m).mono ?_
            rintro e v1 ⟨u1, rfl, ho1, hbn0⟩
            obtain ⟨ao, ca, rfl, hm1⟩ := ho1.slice
            have hx1 := hx0.later hbn0
            have hy1 := hy0.later hbn0
            have hs1r := hs0r.later hbn0
            have ht1r := ht0r.later hbn0
            have hw1 := Below.chain hw0 hbn0
            have hS1 := (⟨hx1.c0, hx1.c1, hy1.c0, hy1.c1⟩ : (fun W : World => W.cell? ⟨w6.heap.size, 0, none⟩ = some (Value.bool o) ∧ W.cell? ⟨w6.heap.size, 1, none⟩ = some (Value.int .i64 m) ∧ W.cell? ⟨w7.heap.size, 0, none⟩ = some (Value.bool o) ∧ W.cell? ⟨w7.heap.size, 1, none⟩ = some (Value.int .i64 m)) v1)
            refine hK.out _ _ hS1 (fun _ => ?_)
            clear hK K
            refine wpAnyH_ready (rs := [7]) (by kernel_rfl) (by simp) ?_
            refine AllReadyH.cons rfl (fun K hK => ?_) AllReadyH.nil
            go_simp
            refine (all_any b L1 k tt _ ht1r.m).mono ?_
            rintro e v2 ⟨u2, rfl, ho2, hbn1⟩
            obtain ⟨bo, cb, rfl, hm2⟩ := ho2.slice
            have hm1 := hm1.later hbn1
            have hx2 := hx1.later hbn1
            have hy2 := hy1.later hbn1
            have hs2r := hs1r.later hbn1
            have ht2r := ht1r.later hbn1
            have hw2 := Below.chain hw1 hbn1
            have hS2 := (⟨hx2.c0, hx2.c1, hy2.c0, hy2.c1⟩ : (fun W : World => W.cell? ⟨w6.heap.size, 0, none⟩ = some (Value.bool o) ∧ W.cell? ⟨w6.heap.size, 1, none⟩ = some (Value.int .i64 m) ∧ W.cell? ⟨w7.heap.size, 0, none⟩ = some (Value.bool o) ∧ W.cell? ⟨w7.heap.size, 1, none⟩ = some (Value.int .i64 m)) v2)
            refine hK.out _ _ hS2 (fun _ => ?_)
            clear hK K
            refine wpAnyH_ready (rs := [8]) (by kernel_rfl) (by simp) ?_
            refine AllReadyH.cons rfl (fun K hK => ?_) AllReadyH.nil
            go_simp
            refine (same_any ao bo L1.length ca cb L1 _ (by have := hs2r.m.len; omega) hm1 hm2).mono ?_
            rintro e v3 ⟨rfl, hbn2⟩
            have hx3 := hx2.later hbn2
            have hy3 := hy2.later hbn2
            have hs3r := hs2r.later hbn2
            have ht3r := ht2r.later hbn2
            have hw3 := Below.chain hw2 hbn2
            have hS3 := (⟨hx3.c0, hx3.c1, hy3.c0, hy3.c1⟩ : (fun W : World => W.cell? ⟨w6.heap.size, 0, none⟩ = some (Value.bool o) ∧ W.cell? ⟨w6.heap.size, 1, none⟩ = some (Value.int .i64 m) ∧ W.cell? ⟨w7.heap.size, 0, none⟩ = some (Value.bool o) ∧ W.cell? ⟨w7.heap.size, 1, none⟩ = some (Value.int .i64 m)) v3)
            refine hK.out _ _ hS3 (fun _ => ?_)
            clear hK K
            refine take_at 9 (some 120) (.bool true) rfl rfl (by kernel_rfl) (by kernel_rfl) (by kernel_rfl) (fun _ _ _ h => h) (by rfl) (fun W hSw => by obtain ⟨q0, q1, q2, q3⟩ := hSw; go_simp) hS3 ?_
            simp only [Act.put, List.setIfInBounds_toArray, List.set_cons_zero, List.set_cons_succ]
            refine take_at 10 (some 121) (.pointer (some ⟨a, 0, none⟩)) rfl rfl (by kernel_rfl) (by kernel_rfl) (by kernel_rfl) (fun _ _ _ h => h) (by rfl) (fun W hSw => by obtain ⟨q0, q1, q2, q3⟩ := hSw; go_simp) hS3 ?_
            simp only [Act.put, List.setIfInBounds_toArray, List.set_cons_zero, List.set_cons_succ]
            refine take_at 11 (some 122) (.pointer (some ⟨a, 0, none⟩)) rfl rfl (by kernel_rfl) (by kernel_rfl) (by kernel_rfl) (fun _ _ _ h => h) (by rfl) (fun W hSw => by obtain ⟨q0, q1, q2, q3⟩ := hSw; go_simp) hS3 ?_
            simp only [Act.put, List.setIfInBounds_toArray, List.set_cons_zero, List.set_cons_succ]
            refine take_at 12 (some 123) (.pointer (some ⟨a, 0, none⟩)) rfl rfl (by kernel_rfl) (by kernel_rfl) (by kernel_rfl) (fun _ _ _ h => h) (by rfl) (fun W hSw => by obtain ⟨q0, q1, q2, q3⟩ := hSw; go_simp) hS3 ?_
            simp only [Act.put, List.setIfInBounds_toArray, List.set_cons_zero, List.set_cons_succ]
            refine take_at 14 (some 125) (.pointer (some ⟨b, 0, none⟩)) rfl rfl (by kernel_rfl) (by kernel_rfl) (by kernel_rfl) (fun _ _ _ h => h) (by rfl) (fun W hSw => by obtain ⟨q0, q1, q2, q3⟩ := hSw; go_simp) hS3 ?_
            simp only [Act.put, List.setIfInBounds_toArray, List.set_cons_zero, List.set_cons_succ]
            refine take_at 15 (some 126) (.pointer (some ⟨b, 0, none⟩)) rfl rfl (by kernel_rfl) (by kernel_rfl) (by kernel_rfl) (fun _ _ _ h => h) (by rfl) (fun W hSw => by obtain ⟨q0, q1, q2, q3⟩ := hSw; go_simp) hS3 ?_
            simp only [Act.put, List.setIfInBounds_toArray, List.set_cons_zero, List.set_cons_succ]
            refine take_at 16 (some 127) (.pointer (some ⟨b, 0, none⟩)) rfl rfl (by kernel_rfl) (by kernel_rfl) (by kernel_rfl) (fun _ _ _ h => h) (by rfl) (fun W hSw => by obtain ⟨q0, q1, q2, q3⟩ := hSw; go_simp) hS3 ?_
            simp only [Act.put, List.setIfInBounds_toArray, List.set_cons_zero, List.set_cons_succ]
            refine wpAnyH_ready (rs := [13]) (by kernel_rfl) (by simp) ?_
            refine AllReadyH.cons rfl (fun K hK => ?_) AllReadyH.nil
            go_simp
            refine (hsu _ a hs3r).mono ?_
            rintro e v4 ⟨rfl, hbn3⟩
            have hx4 := hx3.later hbn3
            have hy4 := hy3.later hbn3
            have hs4r := hs3r.later hbn3
            have ht4r := ht3r.later hbn3
            have hw4 := Below.chain hw3 hbn3
            have hS4 := (⟨hx4.c0, hx4.c1, hy4.c0, hy4.c1⟩ : (fun W : World => W.cell? ⟨w6.heap.size, 0, none⟩ = some (Value.bool o) ∧ W.cell? ⟨w6.heap.size, 1, none⟩ = some (Value.int .i64 m) ∧ W.cell? ⟨w7.heap.size, 0, none⟩ = some (Value.bool o) ∧ W.cell? ⟨w7.heap.size, 1, none⟩ = some (Value.int .i64 m)) v4)
            refine hK.out _ _ hS4 (fun _ => ?_)
            clear hK K
            refine wpAnyH_ready (rs := [17]) (by kernel_rfl) (by simp) ?_
            refine AllReadyH.cons rfl (fun K hK => ?_) AllReadyH.nil
            go_simp
            refine (hsu _ b ht4r).mono ?_
            rintro e v5 ⟨rfl, hbn4⟩
            have hx5 := hx4.later hbn4
            have hy5 := hy4.later hbn4
            have hs5r := hs4r.later hbn4
            have ht5r := ht4r.later hbn4
            have hw5 := Below.chain hw4 hbn4
            have hS5 := (⟨hx5.c0, hx5.c1, hy5.c0, hy5.c1⟩ : (fun W : World => W.cell? ⟨w6.heap.size, 0, none⟩ = some (Value.bool o) ∧ W.cell? ⟨w6.heap.size, 1, none⟩ = some (Value.int .i64 m) ∧ W.cell? ⟨w7.heap.size, 0, none⟩ = some (Value.bool o) ∧ W.cell? ⟨w7.heap.size, 1, none⟩ = some (Value.int .i64 m)) v5)
            refine hK.out _ _ hS5 (fun _ => ?_)
            clear hK K
            refine take_at 18 (some 129) (.bool true) rfl rfl (by kernel_rfl) (by kernel_rfl) (by kernel_rfl) (fun _ _ _ h => h) (by rfl) (fun W hSw => by obtain ⟨q0, q1, q2, q3⟩ := hSw; go_simp) hS5 ?_
            simp only [Act.put, List.setIfInBounds_toArray, List.set_cons_zero, List.set_cons_succ]
            refine take_at 19 (some 130) (.bool true) rfl rfl (by kernel_rfl) (by kernel_rfl) (by kernel_rfl) (fun _ _ _ h => h) (by rfl) (fun W hSw => by obtain ⟨q0, q1, q2, q3⟩ := hSw; go_simp) hS5 ?_
            simp only [Act.put, List.setIfInBounds_toArray, List.set_cons_zero, List.set_cons_succ]
            refine take_at 20 (some 131) (.bool true) rfl rfl (by kernel_rfl) (by kernel_rfl) (by kernel_rfl) (fun _ _ _ h => h) (by rfl) (fun W hSw => by obtain ⟨q0, q1, q2, q3⟩ := hSw; go_simp) hS5 ?_
            simp only [Act.put, List.setIfInBounds_toArray, List.set_cons_zero, List.set_cons_succ]
            refine take_at 21 (some 132) (.agg #[.bool o, .int .i64 m]) rfl rfl (by kernel_rfl) (by kernel_rfl) (by kernel_rfl) (fun _ _ _ h => h) (by rfl) (fun W hSw => by obtain ⟨q0, q1, q2, q3⟩ := hSw; go_simp) hS5 ?_
            simp only [Act.put, List.setIfInBounds_toArray, List.set_cons_zero, List.set_cons_succ]
            refine take_at 22 (some 133) (.agg #[.bool o, .int .i64 m]) rfl rfl (by kernel_rfl) (by kernel_rfl) (by kernel_rfl) (fun _ _ _ h => h) (by rfl) (fun W hSw => by obtain ⟨q0, q1, q2, q3⟩ := hSw; go_simp) hS5 ?_
            simp only [Act.put, List.setIfInBounds_toArray, List.set_cons_zero, List.set_cons_succ]
            refine take_at 23 (some 134) (.bool true) rfl rfl (by kernel_rfl) (by kernel_rfl) (by kernel_rfl) (fun _ _ _ h => h) (by rfl) (fun W hSw => by obtain ⟨q0, q1, q2, q3⟩ := hSw; go_simp) hS5 ?_
            simp only [Act.put, List.setIfInBounds_toArray, List.set_cons_zero, List.set_cons_succ]
            refine take_at 24 (some 135) (.bool true) rfl rfl (by kernel_rfl) (by kernel_rfl) (by kernel_rfl) (fun _ _ _ h => h) (by rfl) (fun W hSw => by obtain ⟨q0, q1, q2, q3⟩ := hSw; go_simp) hS5 ?_
            simp only [Act.put, List.setIfInBounds_toArray, List.set_cons_zero, List.set_cons_succ]
            refine take_at 25 (some 136) (.bool true) rfl rfl (by kernel_rfl) (by kernel_rfl) (by kernel_rfl) (fun _ _ _ h => h) (by rfl) (fun W hSw => by obtain ⟨q0, q1, q2, q3⟩ := hSw; go_simp) hS5 ?_
            simp only [Act.put, List.setIfInBounds_toArray, List.set_cons_zero, List.set_cons_succ]
            refine take_at 26 (some 137) (.bool c) rfl rfl (by kernel_rfl) (by kernel_rfl) (by kernel_rfl) (fun _ _ _ h => h) (by rfl) (fun W hSw => by obtain ⟨q0, q1, q2, q3⟩ := hSw; go_simp) hS5 ?_
            simp only [Act.put, List.setIfInBounds_toArray, List.set_cons_zero, List.set_cons_succ]
            refine take_at 27 (some 138) (.bool c) rfl rfl (by kernel_rfl) (by kernel_rfl) (by kernel_rfl) (fun _ _ _ h => h) (by rfl) (fun W hSw => by obtain ⟨q0, q1, q2, q3⟩ := hSw; go_simp) hS5 ?_
            simp only [Act.put, List.setIfInBounds_toArray, List.set_cons_zero, List.set_cons_succ]
            refine take_at 28 (some 139) (.bool true) rfl rfl (by kernel_rfl) (by kernel_rfl) (by kernel_rfl) (fun _ _ _ h => h) (by rfl) (fun W hSw => by obtain ⟨q0, q1, q2, q3⟩ := hSw; go_simp) hS5 ?_
            simp only [Act.put, List.setIfInBounds_toArray, List.set_cons_zero, List.set_cons_succ]
            refine take_at 29 (some 140) (.bool true) rfl rfl (by kernel_rfl) (by kernel_rfl) (by kernel_rfl) (fun _ _ _ h => h) (by rfl) (fun W hSw => by obtain ⟨q0, q1, q2, q3⟩ := hSw; go_simp) hS5 ?_
            simp only [Act.put, List.setIfInBounds_toArray, List.set_cons_zero, List.set_cons_succ]
            refine take_at 30 (some 141) (.bool true) rfl rfl (by kernel_rfl) (by kernel_rfl) (by kernel_rfl) (fun _ _ _ h => h) (by rfl) (fun W hSw => by obtain ⟨q0, q1, q2, q3⟩ := hSw; go_simp) hS5 ?_
            simp only [Act.put, List.setIfInBounds_toArray, List.set_cons_zero, List.set_cons_succ]
            refine take_at 31 (some 142) (.pointer (some ⟨a, 0, none⟩)) rfl rfl (by kernel_rfl) (by kernel_rfl) (by kernel_rfl) (fun _ _ _ h => h) (by rfl) (fun W hSw => by obtain ⟨q0, q1, q2, q3⟩ := hSw; go_simp) hS5 ?_
            simp only [Act.put, List.setIfInBounds_toArray, List.set_cons_zero, List.set_cons_succ]
            refine take_at 32 (some 143) (.pointer (some ⟨a, 0, none⟩)) rfl rfl (by kernel_rfl) (by kernel_rfl) (by kernel_rfl) (fun _ _ _ h => h) (by rfl) (fun W hSw => by obtain ⟨q0, q1, q2, q3⟩ := hSw; go_simp) hS5 ?_
            simp only [Act.put, List.setIfInBounds_toArray, List.set_cons_zero, List.set_cons_succ]
            refine take_at 33 (some 144) (.pointer (some ⟨a, 0, none⟩)) rfl rfl (by kernel_rfl) (by kernel_rfl) (by kernel_rfl) (fun _ _ _ h => h) (by rfl) (fun W hSw => by obtain ⟨q0, q1, q2, q3⟩ := hSw; go_simp) hS5 ?_
            simp only [Act.put, List.setIfInBounds_toArray, List.set_cons_zero, List.set_cons_succ]
            refine take_at 35 (some 146) (.int .i64 k) rfl rfl (by kernel_rfl) (by kernel_rfl) (by kernel_rfl) (fun _ _ _ h => h) (by rfl) (fun W hSw => by obtain ⟨q0, q1, q2, q3⟩ := hSw; go_simp) hS5 ?_
            simp only [Act.put, List.setIfInBounds_toArray, List.set_cons_zero, List.set_cons_succ]
            refine wpAnyH_ready (rs := [34]) (by kernel_rfl) (by simp) ?_
            refine AllReadyH.cons rfl (fun K hK => ?_) AllReadyH.nil
            go_simp
            refine (len_any a L1 k tt _ hs5r.m).mono ?_
            rintro e v6 ⟨rfl, rfl⟩
            have hS6 := (⟨hx5.c0, hx5.c1, hy5.c0, hy5.c1⟩ : (fun W : World => W.cell? ⟨w6.heap.size, 0, none⟩ = some (Value.bool o) ∧ W.cell? ⟨w6.heap.size, 1, none⟩ = some (Value.int .i64 m) ∧ W.cell? ⟨w7.heap.size, 0, none⟩ = some (Value.bool o) ∧ W.cell? ⟨w7.heap.size, 1, none⟩ = some (Value.int .i64 m)) v5)
            refine hK.out _ _ hS6 (fun _ => ?_)
            clear hK K
            refine take_at 36 (some 147) (.bool true) rfl rfl (by kernel_rfl) (by kernel_rfl) (by kernel_rfl) (fun _ _ _ h => h) (by rfl) (fun W hSw => by go_simp; exact HLE.out) hS6 ?_
            simp only [Act.put, List.setIfInBounds_toArray, List.set_cons_zero, List.set_cons_succ]
            refine take_at 37 (some 148) (.bool true) rfl rfl (by kernel_rfl) (by kernel_rfl) (by kernel_rfl) (fun _ _ _ h => h) (by rfl) (fun W hSw => by obtain ⟨q0, q1, q2, q3⟩ := hSw; go_simp) hS6 ?_
            simp only [Act.put, List.setIfInBounds_toArray, List.set_cons_zero, List.set_cons_succ]
            refine take_at 38 (some 6) (.bool true) rfl rfl (by kernel_rfl) (by kernel_rfl) (by kernel_rfl) (fun _ _ _ h => h) (by rfl) (fun W hSw => by obtain ⟨q0, q1, q2, q3⟩ := hSw; go_simp) hS6 ?_
            simp only [Act.put, List.setIfInBounds_toArray, List.set_cons_zero, List.set_cons_succ]
            refine wpAnyH_done (by kernel_rfl) ?_ _
            refine NoPanic.normal ?_
            go_wp2
            go_ret
            exact ⟨rfl, hw5⟩
end Go.Proofs.Ytchopogodfghoaa
