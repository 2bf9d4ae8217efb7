/- ExtremeBoth: the walk. -/
import Derived.Test.YtpemknkkignmcaaEBoP
namespace Go.Proofs.Ytpemknkkignmcaa
open Go.RowKit

theorem getD_memN {l : List (Bool × Int)} {j : Nat} (h : j < l.length) : l.getD j (false, 0) ∈ l := by
  rw [List.getD_eq_getElem?_getD, List.getElem?_eq_getElem h]
  exact List.getElem_mem h
theorem sg_ne (f : Nat → Bool × Int) {a c : Nat} (h : 0 < c) : (sg f a c).isEmpty = false := by
  obtain ⟨m, rfl⟩ : ∃ m, c = m + 1 := ⟨c - 1, by omega⟩
  rfl
theorem bnd (i c a x : Nat) (J S : Int) (n : Nat) (h1 : a + c = i + 1) (_h2 : 0 < c) (h3 : i < n) (hx : x < c) (q : Nat) (hq : q ≤ x) (hJ : J = ((a + x : Nat) : Int)) (hS : S = (q : Int)) (hn : n ≤ 80) :
    decide (J ≤ (i : Int)) = true ∧ wrap64 (S + 1) = S + 1 ∧ wrap64 (J + 1) = J + 1 ∧ (J < (n : Int) ∧ 0 ≤ J) ∧ i + 1 - (intOf (.int .i64 (J + 1))).toNat < i + 1 - (intOf (.int .i64 J)).toNat :=
  ⟨decide_eq_true (by omega), w64 (by omega) (by omega), w64 (by omega) (by omega), by omega, by simp only [intOf]; omega⟩
theorem bnde (i c a : Nat) (J : Int) (h1 : a + c = i + 1) (_h2 : 0 < c) (hJ : J = ((a + c : Nat) : Int)) : decide (J ≤ (i : Int)) = false ∧ J = (i : Int) + 1 :=
  ⟨decide_eq_false (by omega), by omega⟩
set_option maxRecDepth 20000 in
set_option maxHeartbeats 16000000 in
theorem both_any (ao : Option Addr) (n cap : Nat) (l : List (Bool × Int)) (N : Nat) (w : World) (_hm : n ≤ maxLen) (hN : N ≤ 255) (hs : Ns w ao n l) (hl : ∀ x ∈ l, -9223372036854775808 ≤ x.2 ∧ x.2 ≤ 9223372036854775807) :
    Calls Try.prog 5 #[.slice ao n cap, .int .u8 N] w fun e w' => e = .returned (.bool true) ∧ Below w.heap.size w w' := by
  by_cases hn : n ≤ 80
  · have hdn : decide ((80 : Int) < (n : Int)) = false := decide_eq_false (by omega)
    obtain ⟨k, hk⟩ : ∃ k : Nat, (k : Int) = (N : Int) % 40 + 1 := ⟨N % 40 + 1, by omega⟩
    have k1 : 1 ≤ k ∧ k ≤ 100 := by omega
    have hck : clamp (k : Int) = k := by unfold clamp; rw [if_neg (by omega), if_neg (by omega)]
    obtain ⟨hla, hca⟩ := hs
    have HLa : Hid (l.length = n) := hla
    have HLR : Hid (∀ q, q < n → R64 (l.getD q (false, 0)).2) := fun q hq => hl _ (getD_memN (by rw [hla]; exact hq))
    have HCa : Hid (0 < n → ∃ b off, ao = some ⟨b, off, none⟩ ∧ ∀ j, j < n → ∀ W, Below w.heap.size w W → W.cell? ⟨b, off + j * 2, none⟩ = some (.bool (l.getD j (false, 0)).1) ∧ W.cell? ⟨b, off + j * 2 + 1, none⟩ = some (.int .i64 (l.getD j (false, 0)).2)) := fun hp => by
      obtain ⟨b, off, e, hc⟩ := hca hp
      exact ⟨b, off, e, fun j hj W hW => ⟨(hW.cell (World.block_lt_of_cell? _ _ (hc j hj).1)).trans (hc j hj).1, (hW.cell (World.block_lt_of_cell? _ _ (hc j hj).2)).trans (hc j hj).2⟩⟩
    obtain ⟨F, hFF⟩ : ∃ F : Nat → Option Int, F = fun j => if j < n then cnt (l.getD j (false, 0)).1 (l.getD j (false, 0)).2 else none := ⟨_, rfl⟩
    have HV : Hid (∀ j, V (F j)) := fun j => by
      rw [hFF]
      show V (if _ then _ else _)
      split
      · rename_i h; exact V.cnt (HLR.out j h).1 (HLR.out j h).2
      · exact V.none
    have HFq : Hid (∀ q, q < n → F q = cnt (l.getD q (false, 0)).1 (l.getD q (false, 0)).2) := fun q hq => by rw [hFF]; show (if _ then _ else _) = _; rw [if_pos hq]
    clear hFF hla hca hl
    go_enter Try.func5, Try.ntmps5
    go_wp2_with fail
    refine (known_any _).mono ?_
    rintro e w1 ⟨rfl, hb1⟩
    go_wp2_with fail
    rw [← hk]
    refine (new_st (k : Int) false _).mono ?_
    rw [hck]
    rintro e w2 ⟨rfl, hs2, hb2⟩
    go_wp2_with fail
    rw [← hk]
    refine (new_st (k : Int) true _).mono ?_
    rw [hck]
    rintro e w3 ⟨rfl, ht3, hb3⟩
    have hs3 := hs2.later hb3
    go_wp2_with fail
    rw [← hk]
    refine (new_st (k : Int) true _).mono ?_
    rw [hck]
    rintro e w4 ⟨rfl, hu4, hb4⟩
    have hs4 := hs3.later hb4
    have ht4 := ht3.later hb4
    have hB1 : w.heap.size ≤ w1.heap.size := hb1.size
    have hB2 : w.heap.size ≤ w2.heap.size := (Below.chain hb1 hb2).size
    have hB3 : w.heap.size ≤ w3.heap.size := (Below.chain (Below.chain hb1 hb2) hb3).size
    have hB12 : w1.heap.size ≠ w2.heap.size ∧ w1.heap.size ≠ w3.heap.size ∧ w2.heap.size ≠ w3.heap.size := by have := hs2.lt; have := hs3.lt; have := ht3.lt; omega
    have hb5 := Below.chain (Below.chain (Below.chain hb1 hb2) hb3) hb4
    clear hs2 hs3 ht3
    generalize w1.heap.size = b1 at *
    generalize w2.heap.size = b2 at *
    generalize w3.heap.size = b3 at *
    clear hck hb1 hb2 hb3 hb4 hN
    go_wp2_with fail
    rw [← hk]
    clear hk
    obtain ⟨fv, hfv⟩ : ∃ fv : Nat → Bool × Int, fv = fun j => pr (F j) := ⟨_, rfl⟩
    obtain ⟨hv, hhv⟩ : ∃ hv : Nat → Bool × Int, hv = fun j => pr (fNeg (F j)) := ⟨_, rfl⟩
    have Hfv : Hid (fv = fun j => pr (F j)) := hfv
    have Hhv : Hid (hv = fun j => pr (fNeg (F j))) := hhv
    clear hfv hhv
    go_loopw [10] (fun t wr => ∃ i : Nat, i ≤ n ∧ t = .int .i64 i ∧ St wr b1 (bg fv k i) k ((i - 1 : Nat) : Int) false ∧ St wr b2 (bg fv k i) k ((i - 1 : Nat) : Int) true ∧ St wr b3 (bg hv k i) k ((i - 1 : Nat) : Int) true ∧ Below w.heap.size w wr) (fun t _ => n - (intOf t).toNat)
    case atStart => exact ⟨0, by omega, rfl, hs4, ht4, hu4, hb5⟩
    case round =>
      clear hs4 ht4 hu4 hb5
      obtain ⟨i, hi, rfl, s1, s2, s3, hb⟩ := hrel
      by_cases hlt : i < n
      · have hd : decide ((i : Int) < (n : Int)) = true := decide_eq_true (by omega)
        have HO : Hid (onw ((i - 1 : Nat) : Int) i = i) := onw_up (by omega) (by omega)
        obtain ⟨c, hc⟩ : ∃ c, min (i + 1) k = c := ⟨_, rfl⟩
        obtain ⟨a, ha⟩ : ∃ a, i + 1 - c = a := ⟨_, rfl⟩
        have EN : Hid _ := bnum i k c a (by omega) k1 hc ha
        have hcn : a + c = i + 1 ∧ 0 < c ∧ i < n := by omega
        have HN1 : Hid (bg fv k (i + 1) = sg fv a c) := bg_is fv hc ha
        have HN2 : Hid (bg hv k (i + 1) = sg hv a c) := bg_is hv hc ha
        clear hc ha
        have HC : Hid (∃ b off, ao = some ⟨b, off, none⟩ ∧ ∀ j, j < n → ∀ W, Below w.heap.size w W → W.cell? ⟨b, off + j * 2, none⟩ = some (.bool (l.getD j (false, 0)).1) ∧ W.cell? ⟨b, off + j * 2 + 1, none⟩ = some (.int .i64 (l.getD j (false, 0)).2)) := HCa.out (by omega)
        obtain ⟨bb, oo, rfl, hcell⟩ := HC.out
        have HC2 : Hid _ := hcell
        obtain ⟨v0, v1⟩ := hcell i hlt _ hb
        have hFi := HFq.out i hlt
        have hri := HLR.out i hlt
        clear hcell
        have HL1 : Hid (adL (sg fv (i - min i (k - 1)) (min i (k - 1))) k i ((i : Int), fv i) = bg fv k (i + 1)) := bg_adL fv k i k1.1 (by rw [Hfv.out]; exact nrm_pr _ (HV.out i))
        have HL2 : Hid (adL (sg hv (i - min i (k - 1)) (min i (k - 1))) k i ((i : Int), hv i) = bg hv k (i + 1)) := bg_adL hv k i k1.1 (by rw [Hhv.out]; exact nrm_pr _ (V_neg (HV.out i)))
        have hfi : fv i = pr (F i) := by rw [Hfv.out]
        have hhi : hv i = pr (fNeg (F i)) := by rw [Hhv.out]
        have HNeg : Hid (∀ W, Calls Try.prog 17 #[.agg #[.bool (pr (F i)).1, .int .i64 (pr (F i)).2]] W fun e w' => e = .returned (.agg #[.bool (pr (fNeg (F i))).1, .int .i64 (pr (fNeg (F i))).2]) ∧ Below W.heap.size W w') := fun W => by
          have := neg_any (pr (F i)).1 (pr (F i)).2 W (pr_r64 (HV.out i)).1 (pr_r64 (HV.out i)).2
          rw [pr_cnt (HV.out i)] at this
          exact this
        have HR : Hid (R64 (pr (F i)).2) := pr_r64 (HV.out i)
        have HR2 : Hid (R64 (pr (fNeg (F i))).2) := pr_r64 (V_neg (HV.out i))
        rw [hfi] at HL1
        rw [hhi] at HL2
        generalize hlq : l.getD i (false, 0) = yq at *
        clear hlq
        obtain ⟨yo, ym⟩ := yq
        dsimp only at *
        have hpf : (fIs yo ym = true → pr (F i) = (yo, ym)) ∧ (fIs yo ym = false → pr (F i) = (true, 0)) := ⟨fun h => by rw [hFi]; obtain ⟨h1, h2⟩ := is_cnt h; show (ov _, nn _) = _; rw [h1, h2], fun h => by rw [hFi, isnt_cnt hri.1 h]; rfl⟩
        clear hFi hfi hhi
        generalize hp1 : pr (F i) = pf at *
        clear hp1
        generalize hp2 : pr (fNeg (F i)) = pn at *
        clear hp2
        obtain ⟨fo, fm⟩ := pf
        obtain ⟨no, nm⟩ := pn
        dsimp only at *
        have xt0 := Box.new wr yo ym
        have s1' := s1.later (bal (Below.refl _ _) (.cells #[.bool yo, .int .i64 ym] 28))
        have s2' := s2.later (bal (Below.refl _ _) (.cells #[.bool yo, .int .i64 ym] 28))
        have s3' := s3.later (bal (Below.refl _ _) (.cells #[.bool yo, .int .i64 ym] 28))
        have hb' := bal hb (.cells #[.bool yo, .int .i64 ym] 28)
        have hD : b1 < wr.heap.size ∧ b2 < wr.heap.size ∧ b3 < wr.heap.size ∧ w.heap.size ≤ wr.heap.size := ⟨s1.lt, s2.lt, s3.lt, hb.size⟩
        obtain ⟨m0, m1, l0, l1⟩ := id xt0
        clear s1 s2 s3 hb
        go_wp2_with fail
        generalize wr.alloc (.cells #[.bool yo, .int .i64 ym] 28) = wx at *
        generalize wr.heap.size = D at *
        refine (is_any yo ym _).mono ?_
        rintro e wy ⟨rfl, hby⟩
        have s1 := s1'.later hby
        have s2 := s2'.later hby
        have s3 := s3'.later hby
        have hb := Below.chain hb' hby
        have xt := xt0.later hby
        clear s1' s2' s3' hb' hby xt0 v0 v1 m0 m1 l0 l1
        cases hi1 : fIs yo ym with
        | true =>
          obtain ⟨rfl, rfl⟩ : fo = yo ∧ fm = ym := by have := hpf.1 hi1; injection this with h1 h2; exact ⟨h1, h2⟩
          clear hpf hi1
          go_wp2_with fail
          generalize wy = wz at *
          have d1 := fun W hW => adv_st b1 _ _ _ (i : Int) false W (hW : St W b1 (bg fv k i) k ((i - 1 : Nat) : Int) false)
          have d2 := fun W hW => adv_st b2 _ _ _ (i : Int) true W (hW : St W b2 (bg fv k i) k ((i - 1 : Nat) : Int) true)
          have d3 := fun W hW => adv_st b3 _ _ _ (i : Int) true W (hW : St W b3 (bg hv k i) k ((i - 1 : Nat) : Int) true)
          rw [HO.out, bg_adv _ k i k1.1] at d1 d2 d3
          go_wp2_with fail
          refine (d1 _ s1).mono ?_
          rintro e w4 ⟨rfl, s1', hg⟩
          have hb' := grown_above hb hg hb.size hB1
          have s2' := s2.kept hg (by simp; omega)
          have s3' := s3.kept hg (by simp; omega)
          have xt' := xt.kept hg (by simp; omega)
          clear s1 s2 s3 xt hg hb d1
          go_wp2_with fail
          refine (d2 _ s2').mono ?_
          rintro e w5 ⟨rfl, s2, hg⟩
          have hb := grown_above hb' hg hb'.size hB2
          have s1 := s1'.kept hg (by simp; omega)
          have s3 := s3'.kept hg (by simp; omega)
          have xt := xt'.kept hg (by simp; omega)
          clear s1' s2' s3' xt' hg hb' d2
          go_wp2_with fail
          refine (d3 _ s3).mono ?_
          rintro e w6 ⟨rfl, s3', hg⟩
          have hb' := grown_above hb hg hb.size hB3
          have s1' := s1.kept hg (by simp; omega)
          have s2' := s2.kept hg (by simp; omega)
          have xt' := xt.kept hg (by simp; omega)
          clear s1 s2 s3 xt hg hb d3
          obtain ⟨t0, t1, _, _⟩ := id xt'
          have a1 := fun W hW => add_st b1 _ _ _ false ((i : Int), fo, fm) W (hW : St W b1 (sg fv (i - min i (k - 1)) (min i (k - 1))) k (i : Int) false) HR.out
          have a2 := fun W hW => add_st b2 _ _ _ true ((i : Int), fo, fm) W (hW : St W b2 (sg fv (i - min i (k - 1)) (min i (k - 1))) k (i : Int) true) HR.out
          have a3 := fun W hW => add_st b3 _ _ _ true ((i : Int), no, nm) W (hW : St W b3 (sg hv (i - min i (k - 1)) (min i (k - 1))) k (i : Int) true) HR2.out
          rw [HL1.out, show (((i : Int), fo, fm) : Smp).1 = (i : Int) from rfl, bg_adE _ k i k1.1] at a1 a2
          rw [HL2.out, show (((i : Int), no, nm) : Smp).1 = (i : Int) from rfl, bg_adE _ k i k1.1] at a3
          go_wp2_with fail
          refine (a1 _ s1').mono ?_
          rintro e w7 ⟨rfl, s1, hg⟩
          have hb := grown_above hb' hg hb'.size hB1
          have s2 := s2'.kept hg (by simp; omega)
          have s3 := s3'.kept hg (by simp; omega)
          have xt := xt'.kept hg (by simp; omega)
          clear s1' s2' s3' xt' hg hb' a1 t0 t1
          obtain ⟨t0, t1, _, _⟩ := id xt
          go_wp2_with fail
          refine (a2 _ s2).mono ?_
          rintro e w8 ⟨rfl, s2', hg⟩
          have hb' := grown_above hb hg hb.size hB2
          have s1' := s1.kept hg (by simp; omega)
          have s3' := s3.kept hg (by simp; omega)
          have xt' := xt.kept hg (by simp; omega)
          clear s1 s2 s3 xt hg hb a2 t0 t1
          obtain ⟨t0, t1, _, _⟩ := id xt'
          go_wp2_with fail
          refine (HNeg.out _).mono ?_
          rintro e w9 ⟨rfl, hbn⟩
          have s1 := s1'.later hbn
          have s2 := s2'.later hbn
          have s3 := s3'.later hbn
          have hb := Below.chain hb' hbn
          clear s1' s2' s3' xt' hbn hb' t0 t1
          go_wp2_with fail
          refine (a3 _ s3).mono ?_
          rintro e w10 ⟨rfl, s3', hg⟩
          have hb' := grown_above hb hg hb.size hB3
          have s1' := s1.kept hg (by simp; omega)
          have s2' := s2.kept hg (by simp; omega)
          clear s1 s2 s3 hg hb a3 hB12 hD
          have HCN : Hid _ := hcn
          clear hcn
          obtain ⟨_, _, e3, e4, e5⟩ := EN.out
          rename_i e1' e2'
          clear e1' e2'
          go_wp2_with fail
          clear e3 e4 e5
          have hcn := HCN.out
          go_loopw [12, 9] (fun j s wr => ∃ (x : Nat) (J S : Int), x ≤ c ∧ j = .int .i64 J ∧ s = .int .i64 S ∧ Hid (J = ((a + x : Nat) : Int) ∧ S = (ovr F a x : Int)) ∧ St wr b1 (bg fv k (i + 1)) k (i : Int) false ∧ St wr b2 (bg fv k (i + 1)) k (i : Int) true ∧ St wr b3 (bg hv k (i + 1)) k (i : Int) true ∧ Below w.heap.size w wr) (fun j _ _ => i + 1 - (intOf j).toNat)
          case atStart => exact ⟨0, (a : Int), 0, by omega, rfl, rfl, ⟨rfl, rfl⟩, s1', s2', s3', hb'⟩
          case round =>
            clear s1' s2' s3' hb'
            obtain ⟨x, J, S, hx, rfl, rfl, hJS, s1, s2, s3, hb⟩ := hrel
            by_cases hlx : x < c
            · obtain ⟨g1, g2', g3', g4, g5'⟩ := bnd i c a x J S n hcn.1 hcn.2.1 hcn.2.2 hlx (ovr F a x) (ovr_le F a x) hJS.out.1 hJS.out.2 hn
              have G2 : Hid _ := g2'
              have G3 : Hid _ := g3'
              have G5 : Hid _ := g5'
              clear g2' g3' g5'
              obtain ⟨q, hq⟩ : ∃ q : Nat, q = a + x := ⟨_, rfl⟩
              have hqn : q < n := by omega
              have hqi : q ≤ i := by omega
              obtain ⟨v0, v1⟩ := (HC2.out q hqn) _ hb
              have HF : Hid (F q = cnt (l.getD q (false, 0)).1 (l.getD q (false, 0)).2) := HFq.out q hqn
              have hlr := HLR.out q hqn
              have HOv : Hid (ovr F a (x + 1) = ovr F a x + (if ov (F q) = true then 1 else 0)) := by subst hq; rfl
              have hJ : J = (q : Int) := by rw [hq]; exact hJS.out.1
              have HSv : Hid (S = (ovr F a x : Int)) := hJS.out.2
              have HQ : Hid (q = a + x) := hq
              clear hJS hq
              generalize hlq : l.getD q (false, 0) = yq at *
              clear hlq
              obtain ⟨yo, yn⟩ := yq
              dsimp only at *
              subst hJ
              cases yo with
              | true =>
                have HT : Hid (ov (F q) = true) := by show _ = _; rw [HF.out]; unfold cnt; rw [if_pos (Or.inl rfl)]; rfl
                go_wp2_with fail
                go_roundw
                case rel => exact ⟨x + 1, _, _, by omega, by first | rw [G3.out] | rfl, by first | rw [G2.out] | rfl, ⟨by rw [HQ.out]; rfl, by rw [HOv.out, if_pos HT.out, HSv.out]; rfl⟩, s1, s2, s3, hb⟩
                case measure => first | exact G5.out | (rw [G3.out]; exact G5.out)
              | false =>
                go_wp2_with fail
                refine (is_any false yn _).mono ?_
                rintro e w11 ⟨rfl, hbi⟩
                have s1i := s1.later hbi
                have s2i := s2.later hbi
                have s3i := s3.later hbi
                have hbi' := Below.chain hb hbi
                cases hi2 : fIs false yn with
                | true =>
                  have HT : Hid (¬ ov (F q) = true) := by show ¬ _; rw [HF.out, (is_cnt hi2).1]; decide
                  go_wp2_with fail
                  go_roundw
                  case rel => exact ⟨x + 1, _, _, by omega, by first | rw [G3.out] | rfl, rfl, ⟨by rw [HQ.out]; rfl, by rw [HOv.out, if_neg HT.out, HSv.out]; rfl⟩, s1i, s2i, s3i, hbi'⟩
                  case measure => first | exact G5.out | (rw [G3.out]; exact G5.out)
                | false =>
                  have HT : Hid (ov (F q) = true) := by show _ = _; rw [HF.out, isnt_cnt hlr.1 hi2]; rfl
                  go_wp2_with fail
                  go_roundw
                  case rel => exact ⟨x + 1, _, _, by omega, by first | rw [G3.out] | rfl, by first | rw [G2.out] | rfl, ⟨by rw [HQ.out]; rfl, by rw [HOv.out, if_pos HT.out, HSv.out]; rfl⟩, s1i, s2i, s3i, hbi'⟩
                  case measure => first | exact G5.out | (rw [G3.out]; exact G5.out)
            · obtain rfl : c = x := by omega
              obtain ⟨hdx, hJi⟩ := bnde i c a J hcn.1 hcn.2.1 hJS.out.1
              have HSv : Hid (S = (ovr F a c : Int)) := hJS.out.2
              clear hJS hlx hx
              obtain ⟨ox, oy, oz', vx, vy, vz, f1, f2, f3, f4, f5, f6, f7⟩ := both_all F HV.out a c hcn.2.1
              rw [← HSv.out] at f4 f5
              have HZ : Hid (S = 0 → ox = fNeg oz') := fun h => f7 (by have := HSv.out; omega)
              have t1 := get_st b1 _ _ _ _ wr s1
              have t2 := fun W hW => get_st b2 _ _ _ _ W (hW : St W b2 (bg fv k (i + 1)) k (i : Int) true)
              have t3 := fun W hW => get_st b3 _ _ _ _ W (hW : St W b3 (bg hv k (i + 1)) k (i : Int) true)
              have HN1' := HN1.out
              have HN2' := HN2.out
              rw [show (bg fv k (i + 1)).isEmpty = false by rw [HN1']; exact sg_ne _ hcn.2.1] at t1 t2
              rw [show (bg hv k (i + 1)).isEmpty = false by rw [HN2']; exact sg_ne _ hcn.2.1] at t3
              rw [show (bst false (bg fv k (i + 1))).2 = pr ox by rw [HN1', Hfv.out]; exact f1] at t1
              rw [show (bst true (bg fv k (i + 1))).2 = pr oy by rw [HN1', Hfv.out]; exact f2] at t2
              rw [show (bst true (bg hv k (i + 1))).2 = pr oz' by rw [HN2', Hhv.out]; exact f3] at t3
              have hcmp := fun W => cmp_any (pr ox).1 (pr oy).1 (pr ox).2 (pr oy).2 W (pr_r64 vx) (pr_r64 vy)
              have hneg0 := fun W => neg_any (pr oz').1 (pr oz').2 W (by have := (pr_r64 vz).1; exact this) (pr_r64 vz).2
              rw [pr_cnt vx, pr_cnt vy] at hcmp
              rw [pr_cnt vz] at hneg0
              have HZ2 : Hid (S = 0 → ∀ W, Calls Try.prog 17 #[.agg #[.bool (pr oz').1, .int .i64 (pr oz').2]] W fun e w' => e = .returned (.agg #[.bool (pr ox).1, .int .i64 (pr ox).2]) ∧ Below W.heap.size W w') := fun h W => by
                have := hneg0 W
                rw [← HZ.out h] at this
                exact this
              clear f1 f2 f3 f7 hneg0 HN1' HN2' vx vy vz
              have dh : decide ((0 : Int) < S) = (pr oy).1 := f4.symm
              have db : (S == (c : Int)) = (pr ox).1 := f5.symm
              clear f4 f5
              generalize fCmp ox oy = cc at *
              have dc : decide ((0 : Int) < cc) = false := decide_eq_false (by omega)
              generalize (pr ox).1 = ob at *
              generalize (pr ox).2 = xn at *
              generalize (pr oy).1 = oh at *
              generalize (pr oy).2 = yn at *
              generalize (pr oz').1 = oz at *
              generalize (pr oz').2 = zn at *
              clear f6 HZ hcn
              go_wp2_with fail
              refine t1.mono ?_
              rintro e wa ⟨rfl, hba⟩
              have xA' := Box.new wa ob xn
              have u1 := (s1.later hba).later (bal (Below.refl _ _) (.cells #[.bool ob, .int .i64 xn] 28))
              have u2 := (s2.later hba).later (bal (Below.refl _ _) (.cells #[.bool ob, .int .i64 xn] 28))
              have u3 := (s3.later hba).later (bal (Below.refl _ _) (.cells #[.bool ob, .int .i64 xn] 28))
              have ub := bal (Below.chain hb hba) (.cells #[.bool ob, .int .i64 xn] 28)
              clear s1 s2 s3 hb hba t1
              go_wp2_with fail
              generalize wa.alloc (.cells #[.bool ob, .int .i64 xn] 28) = wa2 at *
              generalize wa.heap.size = A at *
              refine (t2 _ u2).mono ?_
              rintro e wc ⟨rfl, hba⟩
              have xB' := Box.new wc oh yn
              have xA'' := (xA'.later hba).later (bal (Below.refl _ _) (.cells #[.bool oh, .int .i64 yn] 28))
              have s1 := (u1.later hba).later (bal (Below.refl _ _) (.cells #[.bool oh, .int .i64 yn] 28))
              have s2 := (u2.later hba).later (bal (Below.refl _ _) (.cells #[.bool oh, .int .i64 yn] 28))
              have s3 := (u3.later hba).later (bal (Below.refl _ _) (.cells #[.bool oh, .int .i64 yn] 28))
              have hb := bal (Below.chain ub hba) (.cells #[.bool oh, .int .i64 yn] 28)
              clear u1 u2 u3 ub hba t2 xA'
              go_wp2_with fail
              generalize wc.alloc (.cells #[.bool oh, .int .i64 yn] 28) = wc2 at *
              generalize wc.heap.size = B at *
              refine (t3 _ s3).mono ?_
              rintro e wd ⟨rfl, hba⟩
              have xC' := Box.new wd oz zn
              have xA' := (xA''.later hba).later (bal (Below.refl _ _) (.cells #[.bool oz, .int .i64 zn] 28))
              have xB'' := (xB'.later hba).later (bal (Below.refl _ _) (.cells #[.bool oz, .int .i64 zn] 28))
              have u1 := (s1.later hba).later (bal (Below.refl _ _) (.cells #[.bool oz, .int .i64 zn] 28))
              have u2 := (s2.later hba).later (bal (Below.refl _ _) (.cells #[.bool oz, .int .i64 zn] 28))
              have u3 := (s3.later hba).later (bal (Below.refl _ _) (.cells #[.bool oz, .int .i64 zn] 28))
              have ub := bal (Below.chain hb hba) (.cells #[.bool oz, .int .i64 zn] 28)
              clear s1 s2 s3 hb hba t3 xA'' xB'
              have e1 := EN.out.1
              have e2 := EN.out.2.1
              go_wp2_with fail
              clear e1 e2
              generalize wd.alloc (.cells #[.bool oz, .int .i64 zn] 28) = we at *
              generalize wd.heap.size = C at *
              have s1 := u1
              have s2 := u2
              have s3 := u3
              have hb := ub
              have xA := xA'.later (Below.refl _ _).drew
              have xB := xB''.later (Below.refl _ _).drew
              have xC := xC'.later (Below.refl _ _).drew
              clear u1 u2 u3 ub xA' xB'' xC'
              by_cases hS : S = 0
              · have hneg := HZ2.out hS
                have dz : (S == (0 : Int)) = true := by rw [hS]; rfl
                clear hS
                have hS0 : (fun W : World => Box W A ob xn ∧ Box W B oh yn ∧ Box W C oz zn) _ := ⟨xA, xB, xC⟩
                refine wp_region_noPanic ?_
                refine wp_region_held_drew (S := fun W : World => Box W A ob xn ∧ Box W B oh yn ∧ Box W C oz zn) (by kernel_rfl) hS0 (fun _ => ?_)
                refine take_at 0 (some 131) (.bool true) rfl rfl (by kernel_rfl) (by kernel_rfl) (by kernel_rfl) (fun _ _ _ h => h) (by rfl) (fun W hSw => by obtain ⟨⟨q0, q1, _, _⟩, ⟨q2, q3, _, _⟩, ⟨q4, q5, _, _⟩⟩ := hSw; go_simp) hS0 ?_
                simp only [Act.put, List.setIfInBounds_toArray, List.set_cons_zero, List.set_cons_succ]
                refine take_at 1 (some 132) (.bool false) rfl rfl (by kernel_rfl) (by kernel_rfl) (by kernel_rfl) (fun _ _ _ h => h) (by rfl) (fun W hSw => by obtain ⟨⟨q0, q1, _, _⟩, ⟨q2, q3, _, _⟩, ⟨q4, q5, _, _⟩⟩ := hSw; go_simp) hS0 ?_
                simp only [Act.put, List.setIfInBounds_toArray, List.set_cons_zero, List.set_cons_succ]
                refine take_at 2 (some 133) (.bool false) rfl rfl (by kernel_rfl) (by kernel_rfl) (by kernel_rfl) (fun _ _ _ h => h) (by rfl) (fun W hSw => by obtain ⟨⟨q0, q1, _, _⟩, ⟨q2, q3, _, _⟩, ⟨q4, q5, _, _⟩⟩ := hSw; go_simp) hS0 ?_
                simp only [Act.put, List.setIfInBounds_toArray, List.set_cons_zero, List.set_cons_succ]
                refine take_at 3 (some 134) (.bool true) rfl rfl (by kernel_rfl) (by kernel_rfl) (by kernel_rfl) (fun _ _ _ h => h) (by rfl) (fun W hSw => by obtain ⟨⟨q0, q1, _, _⟩, ⟨q2, q3, _, _⟩, ⟨q4, q5, _, _⟩⟩ := hSw; go_simp) hS0 ?_
                simp only [Act.put, List.setIfInBounds_toArray, List.set_cons_zero, List.set_cons_succ]
                refine take_at 4 (some 135) (.bool false) rfl rfl (by kernel_rfl) (by kernel_rfl) (by kernel_rfl) (fun _ _ _ h => h) (by rfl) (fun W hSw => by obtain ⟨⟨q0, q1, _, _⟩, ⟨q2, q3, _, _⟩, ⟨q4, q5, _, _⟩⟩ := hSw; go_simp) hS0 ?_
                simp only [Act.put, List.setIfInBounds_toArray, List.set_cons_zero, List.set_cons_succ]
                refine take_at 5 (some 136) (.bool false) rfl rfl (by kernel_rfl) (by kernel_rfl) (by kernel_rfl) (fun _ _ _ h => h) (by rfl) (fun W hSw => by obtain ⟨⟨q0, q1, _, _⟩, ⟨q2, q3, _, _⟩, ⟨q4, q5, _, _⟩⟩ := hSw; go_simp) hS0 ?_
                simp only [Act.put, List.setIfInBounds_toArray, List.set_cons_zero, List.set_cons_succ]
                refine take_at 6 (some 137) (.bool false) rfl rfl (by kernel_rfl) (by kernel_rfl) (by kernel_rfl) (fun _ _ _ h => h) (by rfl) (fun W hSw => by obtain ⟨⟨q0, q1, _, _⟩, ⟨q2, q3, _, _⟩, ⟨q4, q5, _, _⟩⟩ := hSw; go_simp) hS0 ?_
                simp only [Act.put, List.setIfInBounds_toArray, List.set_cons_zero, List.set_cons_succ]
                refine take_at 7 (some 138) (.bool true) rfl rfl (by kernel_rfl) (by kernel_rfl) (by kernel_rfl) (fun _ _ _ h => h) (by rfl) (fun W hSw => by obtain ⟨⟨q0, q1, _, _⟩, ⟨q2, q3, _, _⟩, ⟨q4, q5, _, _⟩⟩ := hSw; go_simp) hS0 ?_
                simp only [Act.put, List.setIfInBounds_toArray, List.set_cons_zero, List.set_cons_succ]
                refine take_at 8 (some 139) (.bool false) rfl rfl (by kernel_rfl) (by kernel_rfl) (by kernel_rfl) (fun _ _ _ h => h) (by rfl) (fun W hSw => by obtain ⟨⟨q0, q1, _, _⟩, ⟨q2, q3, _, _⟩, ⟨q4, q5, _, _⟩⟩ := hSw; go_simp) hS0 ?_
                simp only [Act.put, List.setIfInBounds_toArray, List.set_cons_zero, List.set_cons_succ]
                refine take_at 9 (some 140) (.bool false) rfl rfl (by kernel_rfl) (by kernel_rfl) (by kernel_rfl) (fun _ _ _ h => h) (by rfl) (fun W hSw => by obtain ⟨⟨q0, q1, _, _⟩, ⟨q2, q3, _, _⟩, ⟨q4, q5, _, _⟩⟩ := hSw; go_simp) hS0 ?_
                simp only [Act.put, List.setIfInBounds_toArray, List.set_cons_zero, List.set_cons_succ]
                refine take_at 10 (some 141) (.bool false) rfl rfl (by kernel_rfl) (by kernel_rfl) (by kernel_rfl) (fun _ _ _ h => h) (by rfl) (fun W hSw => by obtain ⟨⟨q0, q1, _, _⟩, ⟨q2, q3, _, _⟩, ⟨q4, q5, _, _⟩⟩ := hSw; go_simp) hS0 ?_
                simp only [Act.put, List.setIfInBounds_toArray, List.set_cons_zero, List.set_cons_succ]
                refine take_at 11 (some 142) (.pointer (some ⟨B, 0, none⟩)) rfl rfl (by kernel_rfl) (by kernel_rfl) (by kernel_rfl) (fun _ _ _ h => h) (by rfl) (fun W hSw => by obtain ⟨⟨q0, q1, _, _⟩, ⟨q2, q3, _, _⟩, ⟨q4, q5, _, _⟩⟩ := hSw; go_simp) hS0 ?_
                simp only [Act.put, List.setIfInBounds_toArray, List.set_cons_zero, List.set_cons_succ]
                refine take_at 12 (some 143) (.bool oh) rfl rfl (by kernel_rfl) (by kernel_rfl) (by kernel_rfl) (fun _ _ _ h => h) (by rfl) (fun W hSw => by obtain ⟨⟨q0, q1, _, _⟩, ⟨q2, q3, _, _⟩, ⟨q4, q5, _, _⟩⟩ := hSw; go_simp) hS0 ?_
                simp only [Act.put, List.setIfInBounds_toArray, List.set_cons_zero, List.set_cons_succ]
                refine take_at 13 (some 144) (.int .i64 S) rfl rfl (by kernel_rfl) (by kernel_rfl) (by kernel_rfl) (fun _ _ _ h => h) (by rfl) (fun W hSw => by obtain ⟨⟨q0, q1, _, _⟩, ⟨q2, q3, _, _⟩, ⟨q4, q5, _, _⟩⟩ := hSw; go_simp) hS0 ?_
                simp only [Act.put, List.setIfInBounds_toArray, List.set_cons_zero, List.set_cons_succ]
                refine take_at 14 (some 145) (.bool oh) rfl rfl (by kernel_rfl) (by kernel_rfl) (by kernel_rfl) (fun _ _ _ h => h) (by rfl) (fun W hSw => by exact run_gtr _ _ (.tmp 144) (.const (.int .i64 0)) S 0 oh rfl (by kernel_rfl) (by kernel_rfl) dh W) hS0 ?_
                simp only [Act.put, List.setIfInBounds_toArray, List.set_cons_zero, List.set_cons_succ]
                refine take_at 15 (some 146) (.bool false) rfl rfl (by kernel_rfl) (by kernel_rfl) (by kernel_rfl) (fun _ _ _ h => h) (by rfl) (fun W hSw => by exact run_neqB _ _ (.tmp 143) (.tmp 145) oh rfl (by kernel_rfl) (by kernel_rfl) W) hS0 ?_
                simp only [Act.put, List.setIfInBounds_toArray, List.set_cons_zero, List.set_cons_succ]
                refine take_at 16 (some 147) (.bool false) rfl rfl (by kernel_rfl) (by kernel_rfl) (by kernel_rfl) (fun _ _ _ h => h) (by rfl) (fun W hSw => by obtain ⟨⟨q0, q1, _, _⟩, ⟨q2, q3, _, _⟩, ⟨q4, q5, _, _⟩⟩ := hSw; go_simp) hS0 ?_
                simp only [Act.put, List.setIfInBounds_toArray, List.set_cons_zero, List.set_cons_succ]
                refine take_at 17 (some 148) (.bool false) rfl rfl (by kernel_rfl) (by kernel_rfl) (by kernel_rfl) (fun _ _ _ h => h) (by rfl) (fun W hSw => by obtain ⟨⟨q0, q1, _, _⟩, ⟨q2, q3, _, _⟩, ⟨q4, q5, _, _⟩⟩ := hSw; go_simp) hS0 ?_
                simp only [Act.put, List.setIfInBounds_toArray, List.set_cons_zero, List.set_cons_succ]
                refine take_at 18 (some 149) (.pointer (some ⟨A, 0, none⟩)) rfl rfl (by kernel_rfl) (by kernel_rfl) (by kernel_rfl) (fun _ _ _ h => h) (by rfl) (fun W hSw => by obtain ⟨⟨q0, q1, _, _⟩, ⟨q2, q3, _, _⟩, ⟨q4, q5, _, _⟩⟩ := hSw; go_simp) hS0 ?_
                simp only [Act.put, List.setIfInBounds_toArray, List.set_cons_zero, List.set_cons_succ]
                refine take_at 19 (some 150) (.bool ob) rfl rfl (by kernel_rfl) (by kernel_rfl) (by kernel_rfl) (fun _ _ _ h => h) (by rfl) (fun W hSw => by obtain ⟨⟨q0, q1, _, _⟩, ⟨q2, q3, _, _⟩, ⟨q4, q5, _, _⟩⟩ := hSw; go_simp) hS0 ?_
                simp only [Act.put, List.setIfInBounds_toArray, List.set_cons_zero, List.set_cons_succ]
                refine take_at 20 (some 151) (.int .i64 S) rfl rfl (by kernel_rfl) (by kernel_rfl) (by kernel_rfl) (fun _ _ _ h => h) (by rfl) (fun W hSw => by obtain ⟨⟨q0, q1, _, _⟩, ⟨q2, q3, _, _⟩, ⟨q4, q5, _, _⟩⟩ := hSw; go_simp) hS0 ?_
                simp only [Act.put, List.setIfInBounds_toArray, List.set_cons_zero, List.set_cons_succ]
                refine take_at 21 (some 152) (.int .i64 c) rfl rfl (by kernel_rfl) (by kernel_rfl) (by kernel_rfl) (fun _ _ _ h => h) (by rfl) (fun W hSw => by obtain ⟨⟨q0, q1, _, _⟩, ⟨q2, q3, _, _⟩, ⟨q4, q5, _, _⟩⟩ := hSw; go_simp) hS0 ?_
                simp only [Act.put, List.setIfInBounds_toArray, List.set_cons_zero, List.set_cons_succ]
                refine take_at 22 (some 153) (.bool ob) rfl rfl (by kernel_rfl) (by kernel_rfl) (by kernel_rfl) (fun _ _ _ h => h) (by rfl) (fun W hSw => by exact run_eqlI _ _ (.tmp 151) (.tmp 152) S c ob rfl (by kernel_rfl) (by kernel_rfl) db W) hS0 ?_
                simp only [Act.put, List.setIfInBounds_toArray, List.set_cons_zero, List.set_cons_succ]
                refine take_at 23 (some 154) (.bool false) rfl rfl (by kernel_rfl) (by kernel_rfl) (by kernel_rfl) (fun _ _ _ h => h) (by rfl) (fun W hSw => by exact run_neqB _ _ (.tmp 150) (.tmp 153) ob rfl (by kernel_rfl) (by kernel_rfl) W) hS0 ?_
                simp only [Act.put, List.setIfInBounds_toArray, List.set_cons_zero, List.set_cons_succ]
                refine take_at 24 (some 155) (.bool false) rfl rfl (by kernel_rfl) (by kernel_rfl) (by kernel_rfl) (fun _ _ _ h => h) (by rfl) (fun W hSw => by obtain ⟨⟨q0, q1, _, _⟩, ⟨q2, q3, _, _⟩, ⟨q4, q5, _, _⟩⟩ := hSw; go_simp) hS0 ?_
                simp only [Act.put, List.setIfInBounds_toArray, List.set_cons_zero, List.set_cons_succ]
                refine take_at 25 (some 156) (.bool false) rfl rfl (by kernel_rfl) (by kernel_rfl) (by kernel_rfl) (fun _ _ _ h => h) (by rfl) (fun W hSw => by obtain ⟨⟨q0, q1, _, _⟩, ⟨q2, q3, _, _⟩, ⟨q4, q5, _, _⟩⟩ := hSw; go_simp) hS0 ?_
                simp only [Act.put, List.setIfInBounds_toArray, List.set_cons_zero, List.set_cons_succ]
                refine take_at 26 (some 157) (.agg #[.bool ob, .int .i64 xn]) rfl rfl (by kernel_rfl) (by kernel_rfl) (by kernel_rfl) (fun _ _ _ h => h) (by rfl) (fun W hSw => by obtain ⟨⟨q0, q1, _, _⟩, ⟨q2, q3, _, _⟩, ⟨q4, q5, _, _⟩⟩ := hSw; go_simp) hS0 ?_
                simp only [Act.put, List.setIfInBounds_toArray, List.set_cons_zero, List.set_cons_succ]
                refine take_at 27 (some 158) (.agg #[.bool oh, .int .i64 yn]) rfl rfl (by kernel_rfl) (by kernel_rfl) (by kernel_rfl) (fun _ _ _ h => h) (by rfl) (fun W hSw => by obtain ⟨⟨q0, q1, _, _⟩, ⟨q2, q3, _, _⟩, ⟨q4, q5, _, _⟩⟩ := hSw; go_simp) hS0 ?_
                simp only [Act.put, List.setIfInBounds_toArray, List.set_cons_zero, List.set_cons_succ]
                refine wpAnyH_ready (rs := [28]) (by kernel_rfl) (by simp) ?_
                refine AllReadyH.cons rfl (fun K hK => ?_) AllReadyH.nil
                go_simp
                refine (hcmp _).mono ?_
                rintro e wp ⟨rfl, hbp⟩
                have xAp := xA.later hbp
                have xBp := xB.later hbp
                have xCp := xC.later hbp
                clear xA xB xC
                have xA := xAp
                have xB := xBp
                have xC := xCp
                clear xAp xBp xCp
                have hSp := (⟨xA, xB, xC⟩ : (fun W : World => Box W A ob xn ∧ Box W B oh yn ∧ Box W C oz zn) wp)
                refine hK.out _ _ hSp (fun _ => ?_)
                clear hK K
                refine take_at 29 (some 160) (.bool false) rfl rfl (by kernel_rfl) (by kernel_rfl) (by kernel_rfl) (fun _ _ _ h => h) (by rfl) (fun W hSw => by exact run_gtr _ _ (.tmp 159) (.const (.int .i64 0)) cc 0 false rfl (by kernel_rfl) (by kernel_rfl) dc W) hSp ?_
                simp only [Act.put, List.setIfInBounds_toArray, List.set_cons_zero, List.set_cons_succ]
                refine take_at 30 (some 161) (.bool false) rfl rfl (by kernel_rfl) (by kernel_rfl) (by kernel_rfl) (fun _ _ _ h => h) (by rfl) (fun W hSw => by obtain ⟨⟨q0, q1, _, _⟩, ⟨q2, q3, _, _⟩, ⟨q4, q5, _, _⟩⟩ := hSw; go_simp) hSp ?_
                simp only [Act.put, List.setIfInBounds_toArray, List.set_cons_zero, List.set_cons_succ]
                refine take_at 31 (some 162) (.bool false) rfl rfl (by kernel_rfl) (by kernel_rfl) (by kernel_rfl) (fun _ _ _ h => h) (by rfl) (fun W hSw => by obtain ⟨⟨q0, q1, _, _⟩, ⟨q2, q3, _, _⟩, ⟨q4, q5, _, _⟩⟩ := hSw; go_simp) hSp ?_
                simp only [Act.put, List.setIfInBounds_toArray, List.set_cons_zero, List.set_cons_succ]
                refine take_at 32 (some 163) (.int .i64 S) rfl rfl (by kernel_rfl) (by kernel_rfl) (by kernel_rfl) (fun _ _ _ h => h) (by rfl) (fun W hSw => by obtain ⟨⟨q0, q1, _, _⟩, ⟨q2, q3, _, _⟩, ⟨q4, q5, _, _⟩⟩ := hSw; go_simp) hSp ?_
                simp only [Act.put, List.setIfInBounds_toArray, List.set_cons_zero, List.set_cons_succ]
                refine take_at 33 (some 164) (.bool true) rfl rfl (by kernel_rfl) (by kernel_rfl) (by kernel_rfl) (fun _ _ _ h => h) (by rfl) (fun W hSw => by exact run_eqlI _ _ (.tmp 163) (.const (.int .i64 0)) S 0 true rfl (by kernel_rfl) (by kernel_rfl) dz W) hSp ?_
                simp only [Act.put, List.setIfInBounds_toArray, List.set_cons_zero, List.set_cons_succ]
                refine take_at 34 (some 165) (.bool true) rfl rfl (by kernel_rfl) (by kernel_rfl) (by kernel_rfl) (fun _ _ _ h => h) (by rfl) (fun W hSw => by obtain ⟨⟨q0, q1, _, _⟩, ⟨q2, q3, _, _⟩, ⟨q4, q5, _, _⟩⟩ := hSw; go_simp) hSp ?_
                simp only [Act.put, List.setIfInBounds_toArray, List.set_cons_zero, List.set_cons_succ]
                refine take_at 35 (some 166) (.agg #[.bool ob, .int .i64 xn]) rfl rfl (by kernel_rfl) (by kernel_rfl) (by kernel_rfl) (fun _ _ _ h => h) (by rfl) (fun W hSw => by obtain ⟨⟨q0, q1, _, _⟩, ⟨q2, q3, _, _⟩, ⟨q4, q5, _, _⟩⟩ := hSw; go_simp) hSp ?_
                simp only [Act.put, List.setIfInBounds_toArray, List.set_cons_zero, List.set_cons_succ]
                refine take_at 36 (some 167) (.agg #[.bool oz, .int .i64 zn]) rfl rfl (by kernel_rfl) (by kernel_rfl) (by kernel_rfl) (fun _ _ _ h => h) (by rfl) (fun W hSw => by obtain ⟨⟨q0, q1, _, _⟩, ⟨q2, q3, _, _⟩, ⟨q4, q5, _, _⟩⟩ := hSw; go_simp) hSp ?_
                simp only [Act.put, List.setIfInBounds_toArray, List.set_cons_zero, List.set_cons_succ]
                refine wpAnyH_ready (rs := [37]) (by kernel_rfl) (by simp) ?_
                refine AllReadyH.cons rfl (fun K hK => ?_) AllReadyH.nil
                go_simp
                refine (hneg _).mono ?_
                rintro e wq ⟨rfl, hbq⟩
                have xAq := xA.later hbq
                have xBq := xB.later hbq
                have xCq := xC.later hbq
                clear xA xB xC
                have xA := xAq
                have xB := xBq
                have xC := xCq
                clear xAq xBq xCq
                have hSq := (⟨xA, xB, xC⟩ : (fun W : World => Box W A ob xn ∧ Box W B oh yn ∧ Box W C oz zn) wq)
                refine hK.out _ _ hSq (fun _ => ?_)
                clear hK K
                refine take_at 38 (some 169) (.bool false) rfl rfl (by kernel_rfl) (by kernel_rfl) (by kernel_rfl) (fun _ _ _ h => h) (by rfl) (fun W hSw => by exact run_neq _ _ (.tmp 166) (.tmp 168) ob xn rfl (by kernel_rfl) (by kernel_rfl) W) hSq ?_
                simp only [Act.put, List.setIfInBounds_toArray, List.set_cons_zero, List.set_cons_succ]
                refine take_at 39 (some 170) (.bool false) rfl rfl (by kernel_rfl) (by kernel_rfl) (by kernel_rfl) (fun _ _ _ h => h) (by rfl) (fun W hSw => by obtain ⟨⟨q0, q1, _, _⟩, ⟨q2, q3, _, _⟩, ⟨q4, q5, _, _⟩⟩ := hSw; go_simp) hSq ?_
                simp only [Act.put, List.setIfInBounds_toArray, List.set_cons_zero, List.set_cons_succ]
                refine take_at 40 (some 171) (.bool false) rfl rfl (by kernel_rfl) (by kernel_rfl) (by kernel_rfl) (fun _ _ _ h => h) (by rfl) (fun W hSw => by obtain ⟨⟨q0, q1, _, _⟩, ⟨q2, q3, _, _⟩, ⟨q4, q5, _, _⟩⟩ := hSw; go_simp) hSq ?_
                simp only [Act.put, List.setIfInBounds_toArray, List.set_cons_zero, List.set_cons_succ]
                refine wpAnyH_done (by kernel_rfl) ?_ _
                refine NoPanic.normal ?_
                have g1 := (((s1.later (Below.refl _ _).drew).later hbp).later hbq)
                have g2 := (((s2.later (Below.refl _ _).drew).later hbp).later hbq)
                have g3 := (((s3.later (Below.refl _ _).drew).later hbp).later hbq)
                have gb := Below.chain (Below.chain (hb.trans (Below.refl _ _).drew) hbp) hbq
                clear s1 s2 s3 hb xA xB xC hS0 hSp hSq
                have e1 := EN.out.1
                go_wp2
                go_roundw
                clear e1
                case rel => exact ⟨i + 1, by omega, by go_num, g1, g2, g3, gb⟩
                case measure => simp [intOf]; omega
              · have dz : (S == (0 : Int)) = false := beq_eq_false_iff_ne.2 hS
                clear hS
                have hS0 : (fun W : World => Box W A ob xn ∧ Box W B oh yn ∧ Box W C oz zn) _ := ⟨xA, xB, xC⟩
                refine wp_region_noPanic ?_
                refine wp_region_held_drew (S := fun W : World => Box W A ob xn ∧ Box W B oh yn ∧ Box W C oz zn) (by kernel_rfl) hS0 (fun _ => ?_)
                refine take_at 0 (some 131) (.bool true) rfl rfl (by kernel_rfl) (by kernel_rfl) (by kernel_rfl) (fun _ _ _ h => h) (by rfl) (fun W hSw => by obtain ⟨⟨q0, q1, _, _⟩, ⟨q2, q3, _, _⟩, ⟨q4, q5, _, _⟩⟩ := hSw; go_simp) hS0 ?_
                simp only [Act.put, List.setIfInBounds_toArray, List.set_cons_zero, List.set_cons_succ]
                refine take_at 1 (some 132) (.bool false) rfl rfl (by kernel_rfl) (by kernel_rfl) (by kernel_rfl) (fun _ _ _ h => h) (by rfl) (fun W hSw => by obtain ⟨⟨q0, q1, _, _⟩, ⟨q2, q3, _, _⟩, ⟨q4, q5, _, _⟩⟩ := hSw; go_simp) hS0 ?_
                simp only [Act.put, List.setIfInBounds_toArray, List.set_cons_zero, List.set_cons_succ]
                refine take_at 2 (some 133) (.bool false) rfl rfl (by kernel_rfl) (by kernel_rfl) (by kernel_rfl) (fun _ _ _ h => h) (by rfl) (fun W hSw => by obtain ⟨⟨q0, q1, _, _⟩, ⟨q2, q3, _, _⟩, ⟨q4, q5, _, _⟩⟩ := hSw; go_simp) hS0 ?_
                simp only [Act.put, List.setIfInBounds_toArray, List.set_cons_zero, List.set_cons_succ]
                refine take_at 3 (some 134) (.bool true) rfl rfl (by kernel_rfl) (by kernel_rfl) (by kernel_rfl) (fun _ _ _ h => h) (by rfl) (fun W hSw => by obtain ⟨⟨q0, q1, _, _⟩, ⟨q2, q3, _, _⟩, ⟨q4, q5, _, _⟩⟩ := hSw; go_simp) hS0 ?_
                simp only [Act.put, List.setIfInBounds_toArray, List.set_cons_zero, List.set_cons_succ]
                refine take_at 4 (some 135) (.bool false) rfl rfl (by kernel_rfl) (by kernel_rfl) (by kernel_rfl) (fun _ _ _ h => h) (by rfl) (fun W hSw => by obtain ⟨⟨q0, q1, _, _⟩, ⟨q2, q3, _, _⟩, ⟨q4, q5, _, _⟩⟩ := hSw; go_simp) hS0 ?_
                simp only [Act.put, List.setIfInBounds_toArray, List.set_cons_zero, List.set_cons_succ]
                refine take_at 5 (some 136) (.bool false) rfl rfl (by kernel_rfl) (by kernel_rfl) (by kernel_rfl) (fun _ _ _ h => h) (by rfl) (fun W hSw => by obtain ⟨⟨q0, q1, _, _⟩, ⟨q2, q3, _, _⟩, ⟨q4, q5, _, _⟩⟩ := hSw; go_simp) hS0 ?_
                simp only [Act.put, List.setIfInBounds_toArray, List.set_cons_zero, List.set_cons_succ]
                refine take_at 6 (some 137) (.bool false) rfl rfl (by kernel_rfl) (by kernel_rfl) (by kernel_rfl) (fun _ _ _ h => h) (by rfl) (fun W hSw => by obtain ⟨⟨q0, q1, _, _⟩, ⟨q2, q3, _, _⟩, ⟨q4, q5, _, _⟩⟩ := hSw; go_simp) hS0 ?_
                simp only [Act.put, List.setIfInBounds_toArray, List.set_cons_zero, List.set_cons_succ]
                refine take_at 7 (some 138) (.bool true) rfl rfl (by kernel_rfl) (by kernel_rfl) (by kernel_rfl) (fun _ _ _ h => h) (by rfl) (fun W hSw => by obtain ⟨⟨q0, q1, _, _⟩, ⟨q2, q3, _, _⟩, ⟨q4, q5, _, _⟩⟩ := hSw; go_simp) hS0 ?_
                simp only [Act.put, List.setIfInBounds_toArray, List.set_cons_zero, List.set_cons_succ]
                refine take_at 8 (some 139) (.bool false) rfl rfl (by kernel_rfl) (by kernel_rfl) (by kernel_rfl) (fun _ _ _ h => h) (by rfl) (fun W hSw => by obtain ⟨⟨q0, q1, _, _⟩, ⟨q2, q3, _, _⟩, ⟨q4, q5, _, _⟩⟩ := hSw; go_simp) hS0 ?_
                simp only [Act.put, List.setIfInBounds_toArray, List.set_cons_zero, List.set_cons_succ]
                refine take_at 9 (some 140) (.bool false) rfl rfl (by kernel_rfl) (by kernel_rfl) (by kernel_rfl) (fun _ _ _ h => h) (by rfl) (fun W hSw => by obtain ⟨⟨q0, q1, _, _⟩, ⟨q2, q3, _, _⟩, ⟨q4, q5, _, _⟩⟩ := hSw; go_simp) hS0 ?_
                simp only [Act.put, List.setIfInBounds_toArray, List.set_cons_zero, List.set_cons_succ]
                refine take_at 10 (some 141) (.bool false) rfl rfl (by kernel_rfl) (by kernel_rfl) (by kernel_rfl) (fun _ _ _ h => h) (by rfl) (fun W hSw => by obtain ⟨⟨q0, q1, _, _⟩, ⟨q2, q3, _, _⟩, ⟨q4, q5, _, _⟩⟩ := hSw; go_simp) hS0 ?_
                simp only [Act.put, List.setIfInBounds_toArray, List.set_cons_zero, List.set_cons_succ]
                refine take_at 11 (some 142) (.pointer (some ⟨B, 0, none⟩)) rfl rfl (by kernel_rfl) (by kernel_rfl) (by kernel_rfl) (fun _ _ _ h => h) (by rfl) (fun W hSw => by obtain ⟨⟨q0, q1, _, _⟩, ⟨q2, q3, _, _⟩, ⟨q4, q5, _, _⟩⟩ := hSw; go_simp) hS0 ?_
                simp only [Act.put, List.setIfInBounds_toArray, List.set_cons_zero, List.set_cons_succ]
                refine take_at 12 (some 143) (.bool oh) rfl rfl (by kernel_rfl) (by kernel_rfl) (by kernel_rfl) (fun _ _ _ h => h) (by rfl) (fun W hSw => by obtain ⟨⟨q0, q1, _, _⟩, ⟨q2, q3, _, _⟩, ⟨q4, q5, _, _⟩⟩ := hSw; go_simp) hS0 ?_
                simp only [Act.put, List.setIfInBounds_toArray, List.set_cons_zero, List.set_cons_succ]
                refine take_at 13 (some 144) (.int .i64 S) rfl rfl (by kernel_rfl) (by kernel_rfl) (by kernel_rfl) (fun _ _ _ h => h) (by rfl) (fun W hSw => by obtain ⟨⟨q0, q1, _, _⟩, ⟨q2, q3, _, _⟩, ⟨q4, q5, _, _⟩⟩ := hSw; go_simp) hS0 ?_
                simp only [Act.put, List.setIfInBounds_toArray, List.set_cons_zero, List.set_cons_succ]
                refine take_at 14 (some 145) (.bool oh) rfl rfl (by kernel_rfl) (by kernel_rfl) (by kernel_rfl) (fun _ _ _ h => h) (by rfl) (fun W hSw => by exact run_gtr _ _ (.tmp 144) (.const (.int .i64 0)) S 0 oh rfl (by kernel_rfl) (by kernel_rfl) dh W) hS0 ?_
                simp only [Act.put, List.setIfInBounds_toArray, List.set_cons_zero, List.set_cons_succ]
                refine take_at 15 (some 146) (.bool false) rfl rfl (by kernel_rfl) (by kernel_rfl) (by kernel_rfl) (fun _ _ _ h => h) (by rfl) (fun W hSw => by exact run_neqB _ _ (.tmp 143) (.tmp 145) oh rfl (by kernel_rfl) (by kernel_rfl) W) hS0 ?_
                simp only [Act.put, List.setIfInBounds_toArray, List.set_cons_zero, List.set_cons_succ]
                refine take_at 16 (some 147) (.bool false) rfl rfl (by kernel_rfl) (by kernel_rfl) (by kernel_rfl) (fun _ _ _ h => h) (by rfl) (fun W hSw => by obtain ⟨⟨q0, q1, _, _⟩, ⟨q2, q3, _, _⟩, ⟨q4, q5, _, _⟩⟩ := hSw; go_simp) hS0 ?_
                simp only [Act.put, List.setIfInBounds_toArray, List.set_cons_zero, List.set_cons_succ]
                refine take_at 17 (some 148) (.bool false) rfl rfl (by kernel_rfl) (by kernel_rfl) (by kernel_rfl) (fun _ _ _ h => h) (by rfl) (fun W hSw => by obtain ⟨⟨q0, q1, _, _⟩, ⟨q2, q3, _, _⟩, ⟨q4, q5, _, _⟩⟩ := hSw; go_simp) hS0 ?_
                simp only [Act.put, List.setIfInBounds_toArray, List.set_cons_zero, List.set_cons_succ]
                refine take_at 18 (some 149) (.pointer (some ⟨A, 0, none⟩)) rfl rfl (by kernel_rfl) (by kernel_rfl) (by kernel_rfl) (fun _ _ _ h => h) (by rfl) (fun W hSw => by obtain ⟨⟨q0, q1, _, _⟩, ⟨q2, q3, _, _⟩, ⟨q4, q5, _, _⟩⟩ := hSw; go_simp) hS0 ?_
                simp only [Act.put, List.setIfInBounds_toArray, List.set_cons_zero, List.set_cons_succ]
                refine take_at 19 (some 150) (.bool ob) rfl rfl (by kernel_rfl) (by kernel_rfl) (by kernel_rfl) (fun _ _ _ h => h) (by rfl) (fun W hSw => by obtain ⟨⟨q0, q1, _, _⟩, ⟨q2, q3, _, _⟩, ⟨q4, q5, _, _⟩⟩ := hSw; go_simp) hS0 ?_
                simp only [Act.put, List.setIfInBounds_toArray, List.set_cons_zero, List.set_cons_succ]
                refine take_at 20 (some 151) (.int .i64 S) rfl rfl (by kernel_rfl) (by kernel_rfl) (by kernel_rfl) (fun _ _ _ h => h) (by rfl) (fun W hSw => by obtain ⟨⟨q0, q1, _, _⟩, ⟨q2, q3, _, _⟩, ⟨q4, q5, _, _⟩⟩ := hSw; go_simp) hS0 ?_
                simp only [Act.put, List.setIfInBounds_toArray, List.set_cons_zero, List.set_cons_succ]
                refine take_at 21 (some 152) (.int .i64 c) rfl rfl (by kernel_rfl) (by kernel_rfl) (by kernel_rfl) (fun _ _ _ h => h) (by rfl) (fun W hSw => by obtain ⟨⟨q0, q1, _, _⟩, ⟨q2, q3, _, _⟩, ⟨q4, q5, _, _⟩⟩ := hSw; go_simp) hS0 ?_
                simp only [Act.put, List.setIfInBounds_toArray, List.set_cons_zero, List.set_cons_succ]
                refine take_at 22 (some 153) (.bool ob) rfl rfl (by kernel_rfl) (by kernel_rfl) (by kernel_rfl) (fun _ _ _ h => h) (by rfl) (fun W hSw => by exact run_eqlI _ _ (.tmp 151) (.tmp 152) S c ob rfl (by kernel_rfl) (by kernel_rfl) db W) hS0 ?_
                simp only [Act.put, List.setIfInBounds_toArray, List.set_cons_zero, List.set_cons_succ]
                refine take_at 23 (some 154) (.bool false) rfl rfl (by kernel_rfl) (by kernel_rfl) (by kernel_rfl) (fun _ _ _ h => h) (by rfl) (fun W hSw => by exact run_neqB _ _ (.tmp 150) (.tmp 153) ob rfl (by kernel_rfl) (by kernel_rfl) W) hS0 ?_
                simp only [Act.put, List.setIfInBounds_toArray, List.set_cons_zero, List.set_cons_succ]
                refine take_at 24 (some 155) (.bool false) rfl rfl (by kernel_rfl) (by kernel_rfl) (by kernel_rfl) (fun _ _ _ h => h) (by rfl) (fun W hSw => by obtain ⟨⟨q0, q1, _, _⟩, ⟨q2, q3, _, _⟩, ⟨q4, q5, _, _⟩⟩ := hSw; go_simp) hS0 ?_
                simp only [Act.put, List.setIfInBounds_toArray, List.set_cons_zero, List.set_cons_succ]
                refine take_at 25 (some 156) (.bool false) rfl rfl (by kernel_rfl) (by kernel_rfl) (by kernel_rfl) (fun _ _ _ h => h) (by rfl) (fun W hSw => by obtain ⟨⟨q0, q1, _, _⟩, ⟨q2, q3, _, _⟩, ⟨q4, q5, _, _⟩⟩ := hSw; go_simp) hS0 ?_
                simp only [Act.put, List.setIfInBounds_toArray, List.set_cons_zero, List.set_cons_succ]
                refine take_at 26 (some 157) (.agg #[.bool ob, .int .i64 xn]) rfl rfl (by kernel_rfl) (by kernel_rfl) (by kernel_rfl) (fun _ _ _ h => h) (by rfl) (fun W hSw => by obtain ⟨⟨q0, q1, _, _⟩, ⟨q2, q3, _, _⟩, ⟨q4, q5, _, _⟩⟩ := hSw; go_simp) hS0 ?_
                simp only [Act.put, List.setIfInBounds_toArray, List.set_cons_zero, List.set_cons_succ]
                refine take_at 27 (some 158) (.agg #[.bool oh, .int .i64 yn]) rfl rfl (by kernel_rfl) (by kernel_rfl) (by kernel_rfl) (fun _ _ _ h => h) (by rfl) (fun W hSw => by obtain ⟨⟨q0, q1, _, _⟩, ⟨q2, q3, _, _⟩, ⟨q4, q5, _, _⟩⟩ := hSw; go_simp) hS0 ?_
                simp only [Act.put, List.setIfInBounds_toArray, List.set_cons_zero, List.set_cons_succ]
                refine wpAnyH_ready (rs := [28]) (by kernel_rfl) (by simp) ?_
                refine AllReadyH.cons rfl (fun K hK => ?_) AllReadyH.nil
                go_simp
                refine (hcmp _).mono ?_
                rintro e wp ⟨rfl, hbp⟩
                have xAp := xA.later hbp
                have xBp := xB.later hbp
                have xCp := xC.later hbp
                clear xA xB xC
                have xA := xAp
                have xB := xBp
                have xC := xCp
                clear xAp xBp xCp
                have hSp := (⟨xA, xB, xC⟩ : (fun W : World => Box W A ob xn ∧ Box W B oh yn ∧ Box W C oz zn) wp)
                refine hK.out _ _ hSp (fun _ => ?_)
                clear hK K
                refine take_at 29 (some 160) (.bool false) rfl rfl (by kernel_rfl) (by kernel_rfl) (by kernel_rfl) (fun _ _ _ h => h) (by rfl) (fun W hSw => by exact run_gtr _ _ (.tmp 159) (.const (.int .i64 0)) cc 0 false rfl (by kernel_rfl) (by kernel_rfl) dc W) hSp ?_
                simp only [Act.put, List.setIfInBounds_toArray, List.set_cons_zero, List.set_cons_succ]
                refine take_at 30 (some 161) (.bool false) rfl rfl (by kernel_rfl) (by kernel_rfl) (by kernel_rfl) (fun _ _ _ h => h) (by rfl) (fun W hSw => by obtain ⟨⟨q0, q1, _, _⟩, ⟨q2, q3, _, _⟩, ⟨q4, q5, _, _⟩⟩ := hSw; go_simp) hSp ?_
                simp only [Act.put, List.setIfInBounds_toArray, List.set_cons_zero, List.set_cons_succ]
                refine take_at 31 (some 162) (.bool false) rfl rfl (by kernel_rfl) (by kernel_rfl) (by kernel_rfl) (fun _ _ _ h => h) (by rfl) (fun W hSw => by obtain ⟨⟨q0, q1, _, _⟩, ⟨q2, q3, _, _⟩, ⟨q4, q5, _, _⟩⟩ := hSw; go_simp) hSp ?_
                simp only [Act.put, List.setIfInBounds_toArray, List.set_cons_zero, List.set_cons_succ]
                refine take_at 32 (some 163) (.int .i64 S) rfl rfl (by kernel_rfl) (by kernel_rfl) (by kernel_rfl) (fun _ _ _ h => h) (by rfl) (fun W hSw => by obtain ⟨⟨q0, q1, _, _⟩, ⟨q2, q3, _, _⟩, ⟨q4, q5, _, _⟩⟩ := hSw; go_simp) hSp ?_
                simp only [Act.put, List.setIfInBounds_toArray, List.set_cons_zero, List.set_cons_succ]
                refine take_at 33 (some 164) (.bool false) rfl rfl (by kernel_rfl) (by kernel_rfl) (by kernel_rfl) (fun _ _ _ h => h) (by rfl) (fun W hSw => by exact run_eqlI _ _ (.tmp 163) (.const (.int .i64 0)) S 0 false rfl (by kernel_rfl) (by kernel_rfl) dz W) hSp ?_
                simp only [Act.put, List.setIfInBounds_toArray, List.set_cons_zero, List.set_cons_succ]
                refine take_at 34 (some 165) (.bool false) rfl rfl (by kernel_rfl) (by kernel_rfl) (by kernel_rfl) (fun _ _ _ h => h) (by rfl) (fun W hSw => by obtain ⟨⟨q0, q1, _, _⟩, ⟨q2, q3, _, _⟩, ⟨q4, q5, _, _⟩⟩ := hSw; go_simp) hSp ?_
                simp only [Act.put, List.setIfInBounds_toArray, List.set_cons_zero, List.set_cons_succ]
                refine skip_at 35 (some 166) rfl rfl (by kernel_rfl) (by kernel_rfl) (by kernel_rfl) (fun _ _ _ h => h) (by rfl) hSp ?_
                simp only [Act.put, List.setIfInBounds_toArray, List.set_cons_zero, List.set_cons_succ]
                refine skip_at 36 (some 167) rfl rfl (by kernel_rfl) (by kernel_rfl) (by kernel_rfl) (fun _ _ _ h => h) (by rfl) hSp ?_
                simp only [Act.put, List.setIfInBounds_toArray, List.set_cons_zero, List.set_cons_succ]
                refine skip_at 37 (some 168) rfl rfl (by kernel_rfl) (by kernel_rfl) (by kernel_rfl) (fun _ _ _ h => h) (by rfl) hSp ?_
                simp only [Act.put, List.setIfInBounds_toArray, List.set_cons_zero, List.set_cons_succ]
                refine skip_at 38 (some 169) rfl rfl (by kernel_rfl) (by kernel_rfl) (by kernel_rfl) (fun _ _ _ h => h) (by rfl) hSp ?_
                simp only [Act.put, List.setIfInBounds_toArray, List.set_cons_zero, List.set_cons_succ]
                refine take_at 39 (some 170) (.bool false) rfl rfl (by kernel_rfl) (by kernel_rfl) (by kernel_rfl) (fun _ _ _ h => h) (by rfl) (fun W hSw => by obtain ⟨⟨q0, q1, _, _⟩, ⟨q2, q3, _, _⟩, ⟨q4, q5, _, _⟩⟩ := hSw; go_simp) hSp ?_
                simp only [Act.put, List.setIfInBounds_toArray, List.set_cons_zero, List.set_cons_succ]
                refine take_at 40 (some 171) (.bool false) rfl rfl (by kernel_rfl) (by kernel_rfl) (by kernel_rfl) (fun _ _ _ h => h) (by rfl) (fun W hSw => by obtain ⟨⟨q0, q1, _, _⟩, ⟨q2, q3, _, _⟩, ⟨q4, q5, _, _⟩⟩ := hSw; go_simp) hSp ?_
                simp only [Act.put, List.setIfInBounds_toArray, List.set_cons_zero, List.set_cons_succ]
                refine wpAnyH_done (by kernel_rfl) ?_ _
                refine NoPanic.normal ?_
                have g1 := (((s1.later (Below.refl _ _).drew).later hbp))
                have g2 := (((s2.later (Below.refl _ _).drew).later hbp))
                have g3 := (((s3.later (Below.refl _ _).drew).later hbp))
                have gb := Below.chain (hb.trans (Below.refl _ _).drew) hbp
                clear s1 s2 s3 hb xA xB xC hS0 hSp 
                have e1 := EN.out.1
                go_wp2
                go_roundw
                clear e1
                case rel => exact ⟨i + 1, by omega, by go_num, g1, g2, g3, gb⟩
                case measure => simp [intOf]; omega
        | false =>
          obtain ⟨rfl, rfl⟩ : fo = true ∧ fm = 0 := by have := hpf.2 hi1; injection this with h1 h2; exact ⟨h1, h2⟩
          obtain ⟨m0, m1, l0, l1⟩ := id xt
          have xt' : Box ((wy.setCell ⟨D, 0, none⟩ (.bool true)).setCell ⟨D, 1, none⟩ (.int .i64 0)) D true 0 := xt.put
          have s1' := (s1.kept (grown_set wy D 0 (.bool true)) (by simp; omega)).kept (grown_set _ D 1 (.int .i64 0)) (by simp; omega)
          have s2' := (s2.kept (grown_set wy D 0 (.bool true)) (by simp; omega)).kept (grown_set _ D 1 (.int .i64 0)) (by simp; omega)
          have s3' := (s3.kept (grown_set wy D 0 (.bool true)) (by simp; omega)).kept (grown_set _ D 1 (.int .i64 0)) (by simp; omega)
          have hb' := put2 hb hD.2.2.2 true 0
          clear hpf hi1 s1 s2 s3 hb xt
          go_wp2_with fail
          clear m0 m1 l0 l1
          generalize (wy.setCell ⟨D, 0, none⟩ (.bool true)).setCell ⟨D, 1, none⟩ (.int .i64 0) = wz at *
          have s1 := s1'
          have s2 := s2'
          have s3 := s3'
          have hb := hb'
          have xt := xt'
          clear s1' s2' s3' hb' xt'
          have d1 := fun W hW => adv_st b1 _ _ _ (i : Int) false W (hW : St W b1 (bg fv k i) k ((i - 1 : Nat) : Int) false)
          have d2 := fun W hW => adv_st b2 _ _ _ (i : Int) true W (hW : St W b2 (bg fv k i) k ((i - 1 : Nat) : Int) true)
          have d3 := fun W hW => adv_st b3 _ _ _ (i : Int) true W (hW : St W b3 (bg hv k i) k ((i - 1 : Nat) : Int) true)
          rw [HO.out, bg_adv _ k i k1.1] at d1 d2 d3
          go_wp2_with fail
          refine (d1 _ s1).mono ?_
          rintro e w4 ⟨rfl, s1', hg⟩
          have hb' := grown_above hb hg hb.size hB1
          have s2' := s2.kept hg (by simp; omega)
          have s3' := s3.kept hg (by simp; omega)
          have xt' := xt.kept hg (by simp; omega)
          clear s1 s2 s3 xt hg hb d1
          go_wp2_with fail
          refine (d2 _ s2').mono ?_
          rintro e w5 ⟨rfl, s2, hg⟩
          have hb := grown_above hb' hg hb'.size hB2
          have s1 := s1'.kept hg (by simp; omega)
          have s3 := s3'.kept hg (by simp; omega)
          have xt := xt'.kept hg (by simp; omega)
          clear s1' s2' s3' xt' hg hb' d2
          go_wp2_with fail
          refine (d3 _ s3).mono ?_
          rintro e w6 ⟨rfl, s3', hg⟩
          have hb' := grown_above hb hg hb.size hB3
          have s1' := s1.kept hg (by simp; omega)
          have s2' := s2.kept hg (by simp; omega)
          have xt' := xt.kept hg (by simp; omega)
          clear s1 s2 s3 xt hg hb d3
          obtain ⟨t0, t1, _, _⟩ := id xt'
          have a1 := fun W hW => add_st b1 _ _ _ false ((i : Int), true, (0 : Int)) W (hW : St W b1 (sg fv (i - min i (k - 1)) (min i (k - 1))) k (i : Int) false) HR.out
          have a2 := fun W hW => add_st b2 _ _ _ true ((i : Int), true, (0 : Int)) W (hW : St W b2 (sg fv (i - min i (k - 1)) (min i (k - 1))) k (i : Int) true) HR.out
          have a3 := fun W hW => add_st b3 _ _ _ true ((i : Int), no, nm) W (hW : St W b3 (sg hv (i - min i (k - 1)) (min i (k - 1))) k (i : Int) true) HR2.out
          rw [HL1.out, show (((i : Int), true, (0 : Int)) : Smp).1 = (i : Int) from rfl, bg_adE _ k i k1.1] at a1 a2
          rw [HL2.out, show (((i : Int), no, nm) : Smp).1 = (i : Int) from rfl, bg_adE _ k i k1.1] at a3
          go_wp2_with fail
          refine (a1 _ s1').mono ?_
          rintro e w7 ⟨rfl, s1, hg⟩
          have hb := grown_above hb' hg hb'.size hB1
          have s2 := s2'.kept hg (by simp; omega)
          have s3 := s3'.kept hg (by simp; omega)
          have xt := xt'.kept hg (by simp; omega)
          clear s1' s2' s3' xt' hg hb' a1 t0 t1
          obtain ⟨t0, t1, _, _⟩ := id xt
          go_wp2_with fail
          refine (a2 _ s2).mono ?_
          rintro e w8 ⟨rfl, s2', hg⟩
          have hb' := grown_above hb hg hb.size hB2
          have s1' := s1.kept hg (by simp; omega)
          have s3' := s3.kept hg (by simp; omega)
          have xt' := xt.kept hg (by simp; omega)
          clear s1 s2 s3 xt hg hb a2 t0 t1
          obtain ⟨t0, t1, _, _⟩ := id xt'
          go_wp2_with fail
          refine (HNeg.out _).mono ?_
          rintro e w9 ⟨rfl, hbn⟩
          have s1 := s1'.later hbn
          have s2 := s2'.later hbn
          have s3 := s3'.later hbn
          have hb := Below.chain hb' hbn
          clear s1' s2' s3' xt' hbn hb' t0 t1
          go_wp2_with fail
          refine (a3 _ s3).mono ?_
          rintro e w10 ⟨rfl, s3', hg⟩
          have hb' := grown_above hb hg hb.size hB3
          have s1' := s1.kept hg (by simp; omega)
          have s2' := s2.kept hg (by simp; omega)
          clear s1 s2 s3 hg hb a3 hB12 hD
          have HCN : Hid _ := hcn
          clear hcn
          obtain ⟨_, _, e3, e4, e5⟩ := EN.out
          rename_i e1' e2'
          clear e1' e2'
          go_wp2_with fail
          clear e3 e4 e5
          have hcn := HCN.out
          go_loopw [12, 9] (fun j s wr => ∃ (x : Nat) (J S : Int), x ≤ c ∧ j = .int .i64 J ∧ s = .int .i64 S ∧ Hid (J = ((a + x : Nat) : Int) ∧ S = (ovr F a x : Int)) ∧ St wr b1 (bg fv k (i + 1)) k (i : Int) false ∧ St wr b2 (bg fv k (i + 1)) k (i : Int) true ∧ St wr b3 (bg hv k (i + 1)) k (i : Int) true ∧ Below w.heap.size w wr) (fun j _ _ => i + 1 - (intOf j).toNat)
          case atStart => exact ⟨0, (a : Int), 0, by omega, rfl, rfl, ⟨rfl, rfl⟩, s1', s2', s3', hb'⟩
          case round =>
            clear s1' s2' s3' hb'
            obtain ⟨x, J, S, hx, rfl, rfl, hJS, s1, s2, s3, hb⟩ := hrel
            by_cases hlx : x < c
            · obtain ⟨g1, g2', g3', g4, g5'⟩ := bnd i c a x J S n hcn.1 hcn.2.1 hcn.2.2 hlx (ovr F a x) (ovr_le F a x) hJS.out.1 hJS.out.2 hn
              have G2 : Hid _ := g2'
              have G3 : Hid _ := g3'
              have G5 : Hid _ := g5'
              clear g2' g3' g5'
              obtain ⟨q, hq⟩ : ∃ q : Nat, q = a + x := ⟨_, rfl⟩
              have hqn : q < n := by omega
              have hqi : q ≤ i := by omega
              obtain ⟨v0, v1⟩ := (HC2.out q hqn) _ hb
              have HF : Hid (F q = cnt (l.getD q (false, 0)).1 (l.getD q (false, 0)).2) := HFq.out q hqn
              have hlr := HLR.out q hqn
              have HOv : Hid (ovr F a (x + 1) = ovr F a x + (if ov (F q) = true then 1 else 0)) := by subst hq; rfl
              have hJ : J = (q : Int) := by rw [hq]; exact hJS.out.1
              have HSv : Hid (S = (ovr F a x : Int)) := hJS.out.2
              have HQ : Hid (q = a + x) := hq
              clear hJS hq
              generalize hlq : l.getD q (false, 0) = yq at *
              clear hlq
              obtain ⟨yo, yn⟩ := yq
              dsimp only at *
              subst hJ
              cases yo with
              | true =>
                have HT : Hid (ov (F q) = true) := by show _ = _; rw [HF.out]; unfold cnt; rw [if_pos (Or.inl rfl)]; rfl
                go_wp2_with fail
                go_roundw
                case rel => exact ⟨x + 1, _, _, by omega, by first | rw [G3.out] | rfl, by first | rw [G2.out] | rfl, ⟨by rw [HQ.out]; rfl, by rw [HOv.out, if_pos HT.out, HSv.out]; rfl⟩, s1, s2, s3, hb⟩
                case measure => first | exact G5.out | (rw [G3.out]; exact G5.out)
              | false =>
                go_wp2_with fail
                refine (is_any false yn _).mono ?_
                rintro e w11 ⟨rfl, hbi⟩
                have s1i := s1.later hbi
                have s2i := s2.later hbi
                have s3i := s3.later hbi
                have hbi' := Below.chain hb hbi
                cases hi2 : fIs false yn with
                | true =>
                  have HT : Hid (¬ ov (F q) = true) := by show ¬ _; rw [HF.out, (is_cnt hi2).1]; decide
                  go_wp2_with fail
                  go_roundw
                  case rel => exact ⟨x + 1, _, _, by omega, by first | rw [G3.out] | rfl, rfl, ⟨by rw [HQ.out]; rfl, by rw [HOv.out, if_neg HT.out, HSv.out]; rfl⟩, s1i, s2i, s3i, hbi'⟩
                  case measure => first | exact G5.out | (rw [G3.out]; exact G5.out)
                | false =>
                  have HT : Hid (ov (F q) = true) := by show _ = _; rw [HF.out, isnt_cnt hlr.1 hi2]; rfl
                  go_wp2_with fail
                  go_roundw
                  case rel => exact ⟨x + 1, _, _, by omega, by first | rw [G3.out] | rfl, by first | rw [G2.out] | rfl, ⟨by rw [HQ.out]; rfl, by rw [HOv.out, if_pos HT.out, HSv.out]; rfl⟩, s1i, s2i, s3i, hbi'⟩
                  case measure => first | exact G5.out | (rw [G3.out]; exact G5.out)
            · obtain rfl : c = x := by omega
              obtain ⟨hdx, hJi⟩ := bnde i c a J hcn.1 hcn.2.1 hJS.out.1
              have HSv : Hid (S = (ovr F a c : Int)) := hJS.out.2
              clear hJS hlx hx
              obtain ⟨ox, oy, oz', vx, vy, vz, f1, f2, f3, f4, f5, f6, f7⟩ := both_all F HV.out a c hcn.2.1
              rw [← HSv.out] at f4 f5
              have HZ : Hid (S = 0 → ox = fNeg oz') := fun h => f7 (by have := HSv.out; omega)
              have t1 := get_st b1 _ _ _ _ wr s1
              have t2 := fun W hW => get_st b2 _ _ _ _ W (hW : St W b2 (bg fv k (i + 1)) k (i : Int) true)
              have t3 := fun W hW => get_st b3 _ _ _ _ W (hW : St W b3 (bg hv k (i + 1)) k (i : Int) true)
              have HN1' := HN1.out
              have HN2' := HN2.out
              rw [show (bg fv k (i + 1)).isEmpty = false by rw [HN1']; exact sg_ne _ hcn.2.1] at t1 t2
              rw [show (bg hv k (i + 1)).isEmpty = false by rw [HN2']; exact sg_ne _ hcn.2.1] at t3
              rw [show (bst false (bg fv k (i + 1))).2 = pr ox by rw [HN1', Hfv.out]; exact f1] at t1
              rw [show (bst true (bg fv k (i + 1))).2 = pr oy by rw [HN1', Hfv.out]; exact f2] at t2
              rw [show (bst true (bg hv k (i + 1))).2 = pr oz' by rw [HN2', Hhv.out]; exact f3] at t3
              have hcmp := fun W => cmp_any (pr ox).1 (pr oy).1 (pr ox).2 (pr oy).2 W (pr_r64 vx) (pr_r64 vy)
              have hneg0 := fun W => neg_any (pr oz').1 (pr oz').2 W (by have := (pr_r64 vz).1; exact this) (pr_r64 vz).2
              rw [pr_cnt vx, pr_cnt vy] at hcmp
              rw [pr_cnt vz] at hneg0
              have HZ2 : Hid (S = 0 → ∀ W, Calls Try.prog 17 #[.agg #[.bool (pr oz').1, .int .i64 (pr oz').2]] W fun e w' => e = .returned (.agg #[.bool (pr ox).1, .int .i64 (pr ox).2]) ∧ Below W.heap.size W w') := fun h W => by
                have := hneg0 W
                rw [← HZ.out h] at this
                exact this
              clear f1 f2 f3 f7 hneg0 HN1' HN2' vx vy vz
              have dh : decide ((0 : Int) < S) = (pr oy).1 := f4.symm
              have db : (S == (c : Int)) = (pr ox).1 := f5.symm
              clear f4 f5
              generalize fCmp ox oy = cc at *
              have dc : decide ((0 : Int) < cc) = false := decide_eq_false (by omega)
              generalize (pr ox).1 = ob at *
              generalize (pr ox).2 = xn at *
              generalize (pr oy).1 = oh at *
              generalize (pr oy).2 = yn at *
              generalize (pr oz').1 = oz at *
              generalize (pr oz').2 = zn at *
              clear f6 HZ hcn
              go_wp2_with fail
              refine t1.mono ?_
              rintro e wa ⟨rfl, hba⟩
              have xA' := Box.new wa ob xn
              have u1 := (s1.later hba).later (bal (Below.refl _ _) (.cells #[.bool ob, .int .i64 xn] 28))
              have u2 := (s2.later hba).later (bal (Below.refl _ _) (.cells #[.bool ob, .int .i64 xn] 28))
              have u3 := (s3.later hba).later (bal (Below.refl _ _) (.cells #[.bool ob, .int .i64 xn] 28))
              have ub := bal (Below.chain hb hba) (.cells #[.bool ob, .int .i64 xn] 28)
              clear s1 s2 s3 hb hba t1
              go_wp2_with fail
              generalize wa.alloc (.cells #[.bool ob, .int .i64 xn] 28) = wa2 at *
              generalize wa.heap.size = A at *
              refine (t2 _ u2).mono ?_
              rintro e wc ⟨rfl, hba⟩
              have xB' := Box.new wc oh yn
              have xA'' := (xA'.later hba).later (bal (Below.refl _ _) (.cells #[.bool oh, .int .i64 yn] 28))
              have s1 := (u1.later hba).later (bal (Below.refl _ _) (.cells #[.bool oh, .int .i64 yn] 28))
              have s2 := (u2.later hba).later (bal (Below.refl _ _) (.cells #[.bool oh, .int .i64 yn] 28))
              have s3 := (u3.later hba).later (bal (Below.refl _ _) (.cells #[.bool oh, .int .i64 yn] 28))
              have hb := bal (Below.chain ub hba) (.cells #[.bool oh, .int .i64 yn] 28)
              clear u1 u2 u3 ub hba t2 xA'
              go_wp2_with fail
              generalize wc.alloc (.cells #[.bool oh, .int .i64 yn] 28) = wc2 at *
              generalize wc.heap.size = B at *
              refine (t3 _ s3).mono ?_
              rintro e wd ⟨rfl, hba⟩
              have xC' := Box.new wd oz zn
              have xA' := (xA''.later hba).later (bal (Below.refl _ _) (.cells #[.bool oz, .int .i64 zn] 28))
              have xB'' := (xB'.later hba).later (bal (Below.refl _ _) (.cells #[.bool oz, .int .i64 zn] 28))
              have u1 := (s1.later hba).later (bal (Below.refl _ _) (.cells #[.bool oz, .int .i64 zn] 28))
              have u2 := (s2.later hba).later (bal (Below.refl _ _) (.cells #[.bool oz, .int .i64 zn] 28))
              have u3 := (s3.later hba).later (bal (Below.refl _ _) (.cells #[.bool oz, .int .i64 zn] 28))
              have ub := bal (Below.chain hb hba) (.cells #[.bool oz, .int .i64 zn] 28)
              clear s1 s2 s3 hb hba t3 xA'' xB'
              have e1 := EN.out.1
              have e2 := EN.out.2.1
              go_wp2_with fail
              clear e1 e2
              generalize wd.alloc (.cells #[.bool oz, .int .i64 zn] 28) = we at *
              generalize wd.heap.size = C at *
              have s1 := u1
              have s2 := u2
              have s3 := u3
              have hb := ub
              have xA := xA'.later (Below.refl _ _).drew
              have xB := xB''.later (Below.refl _ _).drew
              have xC := xC'.later (Below.refl _ _).drew
              clear u1 u2 u3 ub xA' xB'' xC'
              by_cases hS : S = 0
              · have hneg := HZ2.out hS
                have dz : (S == (0 : Int)) = true := by rw [hS]; rfl
                clear hS
                have hS0 : (fun W : World => Box W A ob xn ∧ Box W B oh yn ∧ Box W C oz zn) _ := ⟨xA, xB, xC⟩
                refine wp_region_noPanic ?_
                refine wp_region_held_drew (S := fun W : World => Box W A ob xn ∧ Box W B oh yn ∧ Box W C oz zn) (by kernel_rfl) hS0 (fun _ => ?_)
                refine take_at 0 (some 131) (.bool true) rfl rfl (by kernel_rfl) (by kernel_rfl) (by kernel_rfl) (fun _ _ _ h => h) (by rfl) (fun W hSw => by obtain ⟨⟨q0, q1, _, _⟩, ⟨q2, q3, _, _⟩, ⟨q4, q5, _, _⟩⟩ := hSw; go_simp) hS0 ?_
                simp only [Act.put, List.setIfInBounds_toArray, List.set_cons_zero, List.set_cons_succ]
                refine take_at 1 (some 132) (.bool false) rfl rfl (by kernel_rfl) (by kernel_rfl) (by kernel_rfl) (fun _ _ _ h => h) (by rfl) (fun W hSw => by obtain ⟨⟨q0, q1, _, _⟩, ⟨q2, q3, _, _⟩, ⟨q4, q5, _, _⟩⟩ := hSw; go_simp) hS0 ?_
                simp only [Act.put, List.setIfInBounds_toArray, List.set_cons_zero, List.set_cons_succ]
                refine take_at 2 (some 133) (.bool false) rfl rfl (by kernel_rfl) (by kernel_rfl) (by kernel_rfl) (fun _ _ _ h => h) (by rfl) (fun W hSw => by obtain ⟨⟨q0, q1, _, _⟩, ⟨q2, q3, _, _⟩, ⟨q4, q5, _, _⟩⟩ := hSw; go_simp) hS0 ?_
                simp only [Act.put, List.setIfInBounds_toArray, List.set_cons_zero, List.set_cons_succ]
                refine take_at 3 (some 134) (.bool true) rfl rfl (by kernel_rfl) (by kernel_rfl) (by kernel_rfl) (fun _ _ _ h => h) (by rfl) (fun W hSw => by obtain ⟨⟨q0, q1, _, _⟩, ⟨q2, q3, _, _⟩, ⟨q4, q5, _, _⟩⟩ := hSw; go_simp) hS0 ?_
                simp only [Act.put, List.setIfInBounds_toArray, List.set_cons_zero, List.set_cons_succ]
                refine take_at 4 (some 135) (.bool false) rfl rfl (by kernel_rfl) (by kernel_rfl) (by kernel_rfl) (fun _ _ _ h => h) (by rfl) (fun W hSw => by obtain ⟨⟨q0, q1, _, _⟩, ⟨q2, q3, _, _⟩, ⟨q4, q5, _, _⟩⟩ := hSw; go_simp) hS0 ?_
                simp only [Act.put, List.setIfInBounds_toArray, List.set_cons_zero, List.set_cons_succ]
                refine take_at 5 (some 136) (.bool false) rfl rfl (by kernel_rfl) (by kernel_rfl) (by kernel_rfl) (fun _ _ _ h => h) (by rfl) (fun W hSw => by obtain ⟨⟨q0, q1, _, _⟩, ⟨q2, q3, _, _⟩, ⟨q4, q5, _, _⟩⟩ := hSw; go_simp) hS0 ?_
                simp only [Act.put, List.setIfInBounds_toArray, List.set_cons_zero, List.set_cons_succ]
                refine take_at 6 (some 137) (.bool false) rfl rfl (by kernel_rfl) (by kernel_rfl) (by kernel_rfl) (fun _ _ _ h => h) (by rfl) (fun W hSw => by obtain ⟨⟨q0, q1, _, _⟩, ⟨q2, q3, _, _⟩, ⟨q4, q5, _, _⟩⟩ := hSw; go_simp) hS0 ?_
                simp only [Act.put, List.setIfInBounds_toArray, List.set_cons_zero, List.set_cons_succ]
                refine take_at 7 (some 138) (.bool true) rfl rfl (by kernel_rfl) (by kernel_rfl) (by kernel_rfl) (fun _ _ _ h => h) (by rfl) (fun W hSw => by obtain ⟨⟨q0, q1, _, _⟩, ⟨q2, q3, _, _⟩, ⟨q4, q5, _, _⟩⟩ := hSw; go_simp) hS0 ?_
                simp only [Act.put, List.setIfInBounds_toArray, List.set_cons_zero, List.set_cons_succ]
                refine take_at 8 (some 139) (.bool false) rfl rfl (by kernel_rfl) (by kernel_rfl) (by kernel_rfl) (fun _ _ _ h => h) (by rfl) (fun W hSw => by obtain ⟨⟨q0, q1, _, _⟩, ⟨q2, q3, _, _⟩, ⟨q4, q5, _, _⟩⟩ := hSw; go_simp) hS0 ?_
                simp only [Act.put, List.setIfInBounds_toArray, List.set_cons_zero, List.set_cons_succ]
                refine take_at 9 (some 140) (.bool false) rfl rfl (by kernel_rfl) (by kernel_rfl) (by kernel_rfl) (fun _ _ _ h => h) (by rfl) (fun W hSw => by obtain ⟨⟨q0, q1, _, _⟩, ⟨q2, q3, _, _⟩, ⟨q4, q5, _, _⟩⟩ := hSw; go_simp) hS0 ?_
                simp only [Act.put, List.setIfInBounds_toArray, List.set_cons_zero, List.set_cons_succ]
                refine take_at 10 (some 141) (.bool false) rfl rfl (by kernel_rfl) (by kernel_rfl) (by kernel_rfl) (fun _ _ _ h => h) (by rfl) (fun W hSw => by obtain ⟨⟨q0, q1, _, _⟩, ⟨q2, q3, _, _⟩, ⟨q4, q5, _, _⟩⟩ := hSw; go_simp) hS0 ?_
                simp only [Act.put, List.setIfInBounds_toArray, List.set_cons_zero, List.set_cons_succ]
                refine take_at 11 (some 142) (.pointer (some ⟨B, 0, none⟩)) rfl rfl (by kernel_rfl) (by kernel_rfl) (by kernel_rfl) (fun _ _ _ h => h) (by rfl) (fun W hSw => by obtain ⟨⟨q0, q1, _, _⟩, ⟨q2, q3, _, _⟩, ⟨q4, q5, _, _⟩⟩ := hSw; go_simp) hS0 ?_
                simp only [Act.put, List.setIfInBounds_toArray, List.set_cons_zero, List.set_cons_succ]
                refine take_at 12 (some 143) (.bool oh) rfl rfl (by kernel_rfl) (by kernel_rfl) (by kernel_rfl) (fun _ _ _ h => h) (by rfl) (fun W hSw => by obtain ⟨⟨q0, q1, _, _⟩, ⟨q2, q3, _, _⟩, ⟨q4, q5, _, _⟩⟩ := hSw; go_simp) hS0 ?_
                simp only [Act.put, List.setIfInBounds_toArray, List.set_cons_zero, List.set_cons_succ]
                refine take_at 13 (some 144) (.int .i64 S) rfl rfl (by kernel_rfl) (by kernel_rfl) (by kernel_rfl) (fun _ _ _ h => h) (by rfl) (fun W hSw => by obtain ⟨⟨q0, q1, _, _⟩, ⟨q2, q3, _, _⟩, ⟨q4, q5, _, _⟩⟩ := hSw; go_simp) hS0 ?_
                simp only [Act.put, List.setIfInBounds_toArray, List.set_cons_zero, List.set_cons_succ]
                refine take_at 14 (some 145) (.bool oh) rfl rfl (by kernel_rfl) (by kernel_rfl) (by kernel_rfl) (fun _ _ _ h => h) (by rfl) (fun W hSw => by exact run_gtr _ _ (.tmp 144) (.const (.int .i64 0)) S 0 oh rfl (by kernel_rfl) (by kernel_rfl) dh W) hS0 ?_
                simp only [Act.put, List.setIfInBounds_toArray, List.set_cons_zero, List.set_cons_succ]
                refine take_at 15 (some 146) (.bool false) rfl rfl (by kernel_rfl) (by kernel_rfl) (by kernel_rfl) (fun _ _ _ h => h) (by rfl) (fun W hSw => by exact run_neqB _ _ (.tmp 143) (.tmp 145) oh rfl (by kernel_rfl) (by kernel_rfl) W) hS0 ?_
                simp only [Act.put, List.setIfInBounds_toArray, List.set_cons_zero, List.set_cons_succ]
                refine take_at 16 (some 147) (.bool false) rfl rfl (by kernel_rfl) (by kernel_rfl) (by kernel_rfl) (fun _ _ _ h => h) (by rfl) (fun W hSw => by obtain ⟨⟨q0, q1, _, _⟩, ⟨q2, q3, _, _⟩, ⟨q4, q5, _, _⟩⟩ := hSw; go_simp) hS0 ?_
                simp only [Act.put, List.setIfInBounds_toArray, List.set_cons_zero, List.set_cons_succ]
                refine take_at 17 (some 148) (.bool false) rfl rfl (by kernel_rfl) (by kernel_rfl) (by kernel_rfl) (fun _ _ _ h => h) (by rfl) (fun W hSw => by obtain ⟨⟨q0, q1, _, _⟩, ⟨q2, q3, _, _⟩, ⟨q4, q5, _, _⟩⟩ := hSw; go_simp) hS0 ?_
                simp only [Act.put, List.setIfInBounds_toArray, List.set_cons_zero, List.set_cons_succ]
                refine take_at 18 (some 149) (.pointer (some ⟨A, 0, none⟩)) rfl rfl (by kernel_rfl) (by kernel_rfl) (by kernel_rfl) (fun _ _ _ h => h) (by rfl) (fun W hSw => by obtain ⟨⟨q0, q1, _, _⟩, ⟨q2, q3, _, _⟩, ⟨q4, q5, _, _⟩⟩ := hSw; go_simp) hS0 ?_
                simp only [Act.put, List.setIfInBounds_toArray, List.set_cons_zero, List.set_cons_succ]
                refine take_at 19 (some 150) (.bool ob) rfl rfl (by kernel_rfl) (by kernel_rfl) (by kernel_rfl) (fun _ _ _ h => h) (by rfl) (fun W hSw => by obtain ⟨⟨q0, q1, _, _⟩, ⟨q2, q3, _, _⟩, ⟨q4, q5, _, _⟩⟩ := hSw; go_simp) hS0 ?_
                simp only [Act.put, List.setIfInBounds_toArray, List.set_cons_zero, List.set_cons_succ]
                refine take_at 20 (some 151) (.int .i64 S) rfl rfl (by kernel_rfl) (by kernel_rfl) (by kernel_rfl) (fun _ _ _ h => h) (by rfl) (fun W hSw => by obtain ⟨⟨q0, q1, _, _⟩, ⟨q2, q3, _, _⟩, ⟨q4, q5, _, _⟩⟩ := hSw; go_simp) hS0 ?_
                simp only [Act.put, List.setIfInBounds_toArray, List.set_cons_zero, List.set_cons_succ]
                refine take_at 21 (some 152) (.int .i64 c) rfl rfl (by kernel_rfl) (by kernel_rfl) (by kernel_rfl) (fun _ _ _ h => h) (by rfl) (fun W hSw => by obtain ⟨⟨q0, q1, _, _⟩, ⟨q2, q3, _, _⟩, ⟨q4, q5, _, _⟩⟩ := hSw; go_simp) hS0 ?_
                simp only [Act.put, List.setIfInBounds_toArray, List.set_cons_zero, List.set_cons_succ]
                refine take_at 22 (some 153) (.bool ob) rfl rfl (by kernel_rfl) (by kernel_rfl) (by kernel_rfl) (fun _ _ _ h => h) (by rfl) (fun W hSw => by exact run_eqlI _ _ (.tmp 151) (.tmp 152) S c ob rfl (by kernel_rfl) (by kernel_rfl) db W) hS0 ?_
                simp only [Act.put, List.setIfInBounds_toArray, List.set_cons_zero, List.set_cons_succ]
                refine take_at 23 (some 154) (.bool false) rfl rfl (by kernel_rfl) (by kernel_rfl) (by kernel_rfl) (fun _ _ _ h => h) (by rfl) (fun W hSw => by exact run_neqB _ _ (.tmp 150) (.tmp 153) ob rfl (by kernel_rfl) (by kernel_rfl) W) hS0 ?_
                simp only [Act.put, List.setIfInBounds_toArray, List.set_cons_zero, List.set_cons_succ]
                refine take_at 24 (some 155) (.bool false) rfl rfl (by kernel_rfl) (by kernel_rfl) (by kernel_rfl) (fun _ _ _ h => h) (by rfl) (fun W hSw => by obtain ⟨⟨q0, q1, _, _⟩, ⟨q2, q3, _, _⟩, ⟨q4, q5, _, _⟩⟩ := hSw; go_simp) hS0 ?_
                simp only [Act.put, List.setIfInBounds_toArray, List.set_cons_zero, List.set_cons_succ]
                refine take_at 25 (some 156) (.bool false) rfl rfl (by kernel_rfl) (by kernel_rfl) (by kernel_rfl) (fun _ _ _ h => h) (by rfl) (fun W hSw => by obtain ⟨⟨q0, q1, _, _⟩, ⟨q2, q3, _, _⟩, ⟨q4, q5, _, _⟩⟩ := hSw; go_simp) hS0 ?_
                simp only [Act.put, List.setIfInBounds_toArray, List.set_cons_zero, List.set_cons_succ]
                refine take_at 26 (some 157) (.agg #[.bool ob, .int .i64 xn]) rfl rfl (by kernel_rfl) (by kernel_rfl) (by kernel_rfl) (fun _ _ _ h => h) (by rfl) (fun W hSw => by obtain ⟨⟨q0, q1, _, _⟩, ⟨q2, q3, _, _⟩, ⟨q4, q5, _, _⟩⟩ := hSw; go_simp) hS0 ?_
                simp only [Act.put, List.setIfInBounds_toArray, List.set_cons_zero, List.set_cons_succ]
                refine take_at 27 (some 158) (.agg #[.bool oh, .int .i64 yn]) rfl rfl (by kernel_rfl) (by kernel_rfl) (by kernel_rfl) (fun _ _ _ h => h) (by rfl) (fun W hSw => by obtain ⟨⟨q0, q1, _, _⟩, ⟨q2, q3, _, _⟩, ⟨q4, q5, _, _⟩⟩ := hSw; go_simp) hS0 ?_
                simp only [Act.put, List.setIfInBounds_toArray, List.set_cons_zero, List.set_cons_succ]
                refine wpAnyH_ready (rs := [28]) (by kernel_rfl) (by simp) ?_
                refine AllReadyH.cons rfl (fun K hK => ?_) AllReadyH.nil
                go_simp
                refine (hcmp _).mono ?_
                rintro e wp ⟨rfl, hbp⟩
                have xAp := xA.later hbp
                have xBp := xB.later hbp
                have xCp := xC.later hbp
                clear xA xB xC
                have xA := xAp
                have xB := xBp
                have xC := xCp
                clear xAp xBp xCp
                have hSp := (⟨xA, xB, xC⟩ : (fun W : World => Box W A ob xn ∧ Box W B oh yn ∧ Box W C oz zn) wp)
                refine hK.out _ _ hSp (fun _ => ?_)
                clear hK K
                refine take_at 29 (some 160) (.bool false) rfl rfl (by kernel_rfl) (by kernel_rfl) (by kernel_rfl) (fun _ _ _ h => h) (by rfl) (fun W hSw => by exact run_gtr _ _ (.tmp 159) (.const (.int .i64 0)) cc 0 false rfl (by kernel_rfl) (by kernel_rfl) dc W) hSp ?_
                simp only [Act.put, List.setIfInBounds_toArray, List.set_cons_zero, List.set_cons_succ]
                refine take_at 30 (some 161) (.bool false) rfl rfl (by kernel_rfl) (by kernel_rfl) (by kernel_rfl) (fun _ _ _ h => h) (by rfl) (fun W hSw => by obtain ⟨⟨q0, q1, _, _⟩, ⟨q2, q3, _, _⟩, ⟨q4, q5, _, _⟩⟩ := hSw; go_simp) hSp ?_
                simp only [Act.put, List.setIfInBounds_toArray, List.set_cons_zero, List.set_cons_succ]
                refine take_at 31 (some 162) (.bool false) rfl rfl (by kernel_rfl) (by kernel_rfl) (by kernel_rfl) (fun _ _ _ h => h) (by rfl) (fun W hSw => by obtain ⟨⟨q0, q1, _, _⟩, ⟨q2, q3, _, _⟩, ⟨q4, q5, _, _⟩⟩ := hSw; go_simp) hSp ?_
                simp only [Act.put, List.setIfInBounds_toArray, List.set_cons_zero, List.set_cons_succ]
                refine take_at 32 (some 163) (.int .i64 S) rfl rfl (by kernel_rfl) (by kernel_rfl) (by kernel_rfl) (fun _ _ _ h => h) (by rfl) (fun W hSw => by obtain ⟨⟨q0, q1, _, _⟩, ⟨q2, q3, _, _⟩, ⟨q4, q5, _, _⟩⟩ := hSw; go_simp) hSp ?_
                simp only [Act.put, List.setIfInBounds_toArray, List.set_cons_zero, List.set_cons_succ]
                refine take_at 33 (some 164) (.bool true) rfl rfl (by kernel_rfl) (by kernel_rfl) (by kernel_rfl) (fun _ _ _ h => h) (by rfl) (fun W hSw => by exact run_eqlI _ _ (.tmp 163) (.const (.int .i64 0)) S 0 true rfl (by kernel_rfl) (by kernel_rfl) dz W) hSp ?_
                simp only [Act.put, List.setIfInBounds_toArray, List.set_cons_zero, List.set_cons_succ]
                refine take_at 34 (some 165) (.bool true) rfl rfl (by kernel_rfl) (by kernel_rfl) (by kernel_rfl) (fun _ _ _ h => h) (by rfl) (fun W hSw => by obtain ⟨⟨q0, q1, _, _⟩, ⟨q2, q3, _, _⟩, ⟨q4, q5, _, _⟩⟩ := hSw; go_simp) hSp ?_
                simp only [Act.put, List.setIfInBounds_toArray, List.set_cons_zero, List.set_cons_succ]
                refine take_at 35 (some 166) (.agg #[.bool ob, .int .i64 xn]) rfl rfl (by kernel_rfl) (by kernel_rfl) (by kernel_rfl) (fun _ _ _ h => h) (by rfl) (fun W hSw => by obtain ⟨⟨q0, q1, _, _⟩, ⟨q2, q3, _, _⟩, ⟨q4, q5, _, _⟩⟩ := hSw; go_simp) hSp ?_
                simp only [Act.put, List.setIfInBounds_toArray, List.set_cons_zero, List.set_cons_succ]
                refine take_at 36 (some 167) (.agg #[.bool oz, .int .i64 zn]) rfl rfl (by kernel_rfl) (by kernel_rfl) (by kernel_rfl) (fun _ _ _ h => h) (by rfl) (fun W hSw => by obtain ⟨⟨q0, q1, _, _⟩, ⟨q2, q3, _, _⟩, ⟨q4, q5, _, _⟩⟩ := hSw; go_simp) hSp ?_
                simp only [Act.put, List.setIfInBounds_toArray, List.set_cons_zero, List.set_cons_succ]
                refine wpAnyH_ready (rs := [37]) (by kernel_rfl) (by simp) ?_
                refine AllReadyH.cons rfl (fun K hK => ?_) AllReadyH.nil
                go_simp
                refine (hneg _).mono ?_
                rintro e wq ⟨rfl, hbq⟩
                have xAq := xA.later hbq
                have xBq := xB.later hbq
                have xCq := xC.later hbq
                clear xA xB xC
                have xA := xAq
                have xB := xBq
                have xC := xCq
                clear xAq xBq xCq
                have hSq := (⟨xA, xB, xC⟩ : (fun W : World => Box W A ob xn ∧ Box W B oh yn ∧ Box W C oz zn) wq)
                refine hK.out _ _ hSq (fun _ => ?_)
                clear hK K
                refine take_at 38 (some 169) (.bool false) rfl rfl (by kernel_rfl) (by kernel_rfl) (by kernel_rfl) (fun _ _ _ h => h) (by rfl) (fun W hSw => by exact run_neq _ _ (.tmp 166) (.tmp 168) ob xn rfl (by kernel_rfl) (by kernel_rfl) W) hSq ?_
                simp only [Act.put, List.setIfInBounds_toArray, List.set_cons_zero, List.set_cons_succ]
                refine take_at 39 (some 170) (.bool false) rfl rfl (by kernel_rfl) (by kernel_rfl) (by kernel_rfl) (fun _ _ _ h => h) (by rfl) (fun W hSw => by obtain ⟨⟨q0, q1, _, _⟩, ⟨q2, q3, _, _⟩, ⟨q4, q5, _, _⟩⟩ := hSw; go_simp) hSq ?_
                simp only [Act.put, List.setIfInBounds_toArray, List.set_cons_zero, List.set_cons_succ]
                refine take_at 40 (some 171) (.bool false) rfl rfl (by kernel_rfl) (by kernel_rfl) (by kernel_rfl) (fun _ _ _ h => h) (by rfl) (fun W hSw => by obtain ⟨⟨q0, q1, _, _⟩, ⟨q2, q3, _, _⟩, ⟨q4, q5, _, _⟩⟩ := hSw; go_simp) hSq ?_
                simp only [Act.put, List.setIfInBounds_toArray, List.set_cons_zero, List.set_cons_succ]
                refine wpAnyH_done (by kernel_rfl) ?_ _
                refine NoPanic.normal ?_
                have g1 := (((s1.later (Below.refl _ _).drew).later hbp).later hbq)
                have g2 := (((s2.later (Below.refl _ _).drew).later hbp).later hbq)
                have g3 := (((s3.later (Below.refl _ _).drew).later hbp).later hbq)
                have gb := Below.chain (Below.chain (hb.trans (Below.refl _ _).drew) hbp) hbq
                clear s1 s2 s3 hb xA xB xC hS0 hSp hSq
                have e1 := EN.out.1
                go_wp2
                go_roundw
                clear e1
                case rel => exact ⟨i + 1, by omega, by go_num, g1, g2, g3, gb⟩
                case measure => simp [intOf]; omega
              · have dz : (S == (0 : Int)) = false := beq_eq_false_iff_ne.2 hS
                clear hS
                have hS0 : (fun W : World => Box W A ob xn ∧ Box W B oh yn ∧ Box W C oz zn) _ := ⟨xA, xB, xC⟩
                refine wp_region_noPanic ?_
                refine wp_region_held_drew (S := fun W : World => Box W A ob xn ∧ Box W B oh yn ∧ Box W C oz zn) (by kernel_rfl) hS0 (fun _ => ?_)
                refine take_at 0 (some 131) (.bool true) rfl rfl (by kernel_rfl) (by kernel_rfl) (by kernel_rfl) (fun _ _ _ h => h) (by rfl) (fun W hSw => by obtain ⟨⟨q0, q1, _, _⟩, ⟨q2, q3, _, _⟩, ⟨q4, q5, _, _⟩⟩ := hSw; go_simp) hS0 ?_
                simp only [Act.put, List.setIfInBounds_toArray, List.set_cons_zero, List.set_cons_succ]
                refine take_at 1 (some 132) (.bool false) rfl rfl (by kernel_rfl) (by kernel_rfl) (by kernel_rfl) (fun _ _ _ h => h) (by rfl) (fun W hSw => by obtain ⟨⟨q0, q1, _, _⟩, ⟨q2, q3, _, _⟩, ⟨q4, q5, _, _⟩⟩ := hSw; go_simp) hS0 ?_
                simp only [Act.put, List.setIfInBounds_toArray, List.set_cons_zero, List.set_cons_succ]
                refine take_at 2 (some 133) (.bool false) rfl rfl (by kernel_rfl) (by kernel_rfl) (by kernel_rfl) (fun _ _ _ h => h) (by rfl) (fun W hSw => by obtain ⟨⟨q0, q1, _, _⟩, ⟨q2, q3, _, _⟩, ⟨q4, q5, _, _⟩⟩ := hSw; go_simp) hS0 ?_
                simp only [Act.put, List.setIfInBounds_toArray, List.set_cons_zero, List.set_cons_succ]
                refine take_at 3 (some 134) (.bool true) rfl rfl (by kernel_rfl) (by kernel_rfl) (by kernel_rfl) (fun _ _ _ h => h) (by rfl) (fun W hSw => by obtain ⟨⟨q0, q1, _, _⟩, ⟨q2, q3, _, _⟩, ⟨q4, q5, _, _⟩⟩ := hSw; go_simp) hS0 ?_
                simp only [Act.put, List.setIfInBounds_toArray, List.set_cons_zero, List.set_cons_succ]
                refine take_at 4 (some 135) (.bool false) rfl rfl (by kernel_rfl) (by kernel_rfl) (by kernel_rfl) (fun _ _ _ h => h) (by rfl) (fun W hSw => by obtain ⟨⟨q0, q1, _, _⟩, ⟨q2, q3, _, _⟩, ⟨q4, q5, _, _⟩⟩ := hSw; go_simp) hS0 ?_
                simp only [Act.put, List.setIfInBounds_toArray, List.set_cons_zero, List.set_cons_succ]
                refine take_at 5 (some 136) (.bool false) rfl rfl (by kernel_rfl) (by kernel_rfl) (by kernel_rfl) (fun _ _ _ h => h) (by rfl) (fun W hSw => by obtain ⟨⟨q0, q1, _, _⟩, ⟨q2, q3, _, _⟩, ⟨q4, q5, _, _⟩⟩ := hSw; go_simp) hS0 ?_
                simp only [Act.put, List.setIfInBounds_toArray, List.set_cons_zero, List.set_cons_succ]
                refine take_at 6 (some 137) (.bool false) rfl rfl (by kernel_rfl) (by kernel_rfl) (by kernel_rfl) (fun _ _ _ h => h) (by rfl) (fun W hSw => by obtain ⟨⟨q0, q1, _, _⟩, ⟨q2, q3, _, _⟩, ⟨q4, q5, _, _⟩⟩ := hSw; go_simp) hS0 ?_
                simp only [Act.put, List.setIfInBounds_toArray, List.set_cons_zero, List.set_cons_succ]
                refine take_at 7 (some 138) (.bool true) rfl rfl (by kernel_rfl) (by kernel_rfl) (by kernel_rfl) (fun _ _ _ h => h) (by rfl) (fun W hSw => by obtain ⟨⟨q0, q1, _, _⟩, ⟨q2, q3, _, _⟩, ⟨q4, q5, _, _⟩⟩ := hSw; go_simp) hS0 ?_
                simp only [Act.put, List.setIfInBounds_toArray, List.set_cons_zero, List.set_cons_succ]
                refine take_at 8 (some 139) (.bool false) rfl rfl (by kernel_rfl) (by kernel_rfl) (by kernel_rfl) (fun _ _ _ h => h) (by rfl) (fun W hSw => by obtain ⟨⟨q0, q1, _, _⟩, ⟨q2, q3, _, _⟩, ⟨q4, q5, _, _⟩⟩ := hSw; go_simp) hS0 ?_
                simp only [Act.put, List.setIfInBounds_toArray, List.set_cons_zero, List.set_cons_succ]
                refine take_at 9 (some 140) (.bool false) rfl rfl (by kernel_rfl) (by kernel_rfl) (by kernel_rfl) (fun _ _ _ h => h) (by rfl) (fun W hSw => by obtain ⟨⟨q0, q1, _, _⟩, ⟨q2, q3, _, _⟩, ⟨q4, q5, _, _⟩⟩ := hSw; go_simp) hS0 ?_
                simp only [Act.put, List.setIfInBounds_toArray, List.set_cons_zero, List.set_cons_succ]
                refine take_at 10 (some 141) (.bool false) rfl rfl (by kernel_rfl) (by kernel_rfl) (by kernel_rfl) (fun _ _ _ h => h) (by rfl) (fun W hSw => by obtain ⟨⟨q0, q1, _, _⟩, ⟨q2, q3, _, _⟩, ⟨q4, q5, _, _⟩⟩ := hSw; go_simp) hS0 ?_
                simp only [Act.put, List.setIfInBounds_toArray, List.set_cons_zero, List.set_cons_succ]
                refine take_at 11 (some 142) (.pointer (some ⟨B, 0, none⟩)) rfl rfl (by kernel_rfl) (by kernel_rfl) (by kernel_rfl) (fun _ _ _ h => h) (by rfl) (fun W hSw => by obtain ⟨⟨q0, q1, _, _⟩, ⟨q2, q3, _, _⟩, ⟨q4, q5, _, _⟩⟩ := hSw; go_simp) hS0 ?_
                simp only [Act.put, List.setIfInBounds_toArray, List.set_cons_zero, List.set_cons_succ]
                refine take_at 12 (some 143) (.bool oh) rfl rfl (by kernel_rfl) (by kernel_rfl) (by kernel_rfl) (fun _ _ _ h => h) (by rfl) (fun W hSw => by obtain ⟨⟨q0, q1, _, _⟩, ⟨q2, q3, _, _⟩, ⟨q4, q5, _, _⟩⟩ := hSw; go_simp) hS0 ?_
                simp only [Act.put, List.setIfInBounds_toArray, List.set_cons_zero, List.set_cons_succ]
                refine take_at 13 (some 144) (.int .i64 S) rfl rfl (by kernel_rfl) (by kernel_rfl) (by kernel_rfl) (fun _ _ _ h => h) (by rfl) (fun W hSw => by obtain ⟨⟨q0, q1, _, _⟩, ⟨q2, q3, _, _⟩, ⟨q4, q5, _, _⟩⟩ := hSw; go_simp) hS0 ?_
                simp only [Act.put, List.setIfInBounds_toArray, List.set_cons_zero, List.set_cons_succ]
                refine take_at 14 (some 145) (.bool oh) rfl rfl (by kernel_rfl) (by kernel_rfl) (by kernel_rfl) (fun _ _ _ h => h) (by rfl) (fun W hSw => by exact run_gtr _ _ (.tmp 144) (.const (.int .i64 0)) S 0 oh rfl (by kernel_rfl) (by kernel_rfl) dh W) hS0 ?_
                simp only [Act.put, List.setIfInBounds_toArray, List.set_cons_zero, List.set_cons_succ]
                refine take_at 15 (some 146) (.bool false) rfl rfl (by kernel_rfl) (by kernel_rfl) (by kernel_rfl) (fun _ _ _ h => h) (by rfl) (fun W hSw => by exact run_neqB _ _ (.tmp 143) (.tmp 145) oh rfl (by kernel_rfl) (by kernel_rfl) W) hS0 ?_
                simp only [Act.put, List.setIfInBounds_toArray, List.set_cons_zero, List.set_cons_succ]
                refine take_at 16 (some 147) (.bool false) rfl rfl (by kernel_rfl) (by kernel_rfl) (by kernel_rfl) (fun _ _ _ h => h) (by rfl) (fun W hSw => by obtain ⟨⟨q0, q1, _, _⟩, ⟨q2, q3, _, _⟩, ⟨q4, q5, _, _⟩⟩ := hSw; go_simp) hS0 ?_
                simp only [Act.put, List.setIfInBounds_toArray, List.set_cons_zero, List.set_cons_succ]
                refine take_at 17 (some 148) (.bool false) rfl rfl (by kernel_rfl) (by kernel_rfl) (by kernel_rfl) (fun _ _ _ h => h) (by rfl) (fun W hSw => by obtain ⟨⟨q0, q1, _, _⟩, ⟨q2, q3, _, _⟩, ⟨q4, q5, _, _⟩⟩ := hSw; go_simp) hS0 ?_
                simp only [Act.put, List.setIfInBounds_toArray, List.set_cons_zero, List.set_cons_succ]
                refine take_at 18 (some 149) (.pointer (some ⟨A, 0, none⟩)) rfl rfl (by kernel_rfl) (by kernel_rfl) (by kernel_rfl) (fun _ _ _ h => h) (by rfl) (fun W hSw => by obtain ⟨⟨q0, q1, _, _⟩, ⟨q2, q3, _, _⟩, ⟨q4, q5, _, _⟩⟩ := hSw; go_simp) hS0 ?_
                simp only [Act.put, List.setIfInBounds_toArray, List.set_cons_zero, List.set_cons_succ]
                refine take_at 19 (some 150) (.bool ob) rfl rfl (by kernel_rfl) (by kernel_rfl) (by kernel_rfl) (fun _ _ _ h => h) (by rfl) (fun W hSw => by obtain ⟨⟨q0, q1, _, _⟩, ⟨q2, q3, _, _⟩, ⟨q4, q5, _, _⟩⟩ := hSw; go_simp) hS0 ?_
                simp only [Act.put, List.setIfInBounds_toArray, List.set_cons_zero, List.set_cons_succ]
                refine take_at 20 (some 151) (.int .i64 S) rfl rfl (by kernel_rfl) (by kernel_rfl) (by kernel_rfl) (fun _ _ _ h => h) (by rfl) (fun W hSw => by obtain ⟨⟨q0, q1, _, _⟩, ⟨q2, q3, _, _⟩, ⟨q4, q5, _, _⟩⟩ := hSw; go_simp) hS0 ?_
                simp only [Act.put, List.setIfInBounds_toArray, List.set_cons_zero, List.set_cons_succ]
                refine take_at 21 (some 152) (.int .i64 c) rfl rfl (by kernel_rfl) (by kernel_rfl) (by kernel_rfl) (fun _ _ _ h => h) (by rfl) (fun W hSw => by obtain ⟨⟨q0, q1, _, _⟩, ⟨q2, q3, _, _⟩, ⟨q4, q5, _, _⟩⟩ := hSw; go_simp) hS0 ?_
                simp only [Act.put, List.setIfInBounds_toArray, List.set_cons_zero, List.set_cons_succ]
                refine take_at 22 (some 153) (.bool ob) rfl rfl (by kernel_rfl) (by kernel_rfl) (by kernel_rfl) (fun _ _ _ h => h) (by rfl) (fun W hSw => by exact run_eqlI _ _ (.tmp 151) (.tmp 152) S c ob rfl (by kernel_rfl) (by kernel_rfl) db W) hS0 ?_
                simp only [Act.put, List.setIfInBounds_toArray, List.set_cons_zero, List.set_cons_succ]
                refine take_at 23 (some 154) (.bool false) rfl rfl (by kernel_rfl) (by kernel_rfl) (by kernel_rfl) (fun _ _ _ h => h) (by rfl) (fun W hSw => by exact run_neqB _ _ (.tmp 150) (.tmp 153) ob rfl (by kernel_rfl) (by kernel_rfl) W) hS0 ?_
                simp only [Act.put, List.setIfInBounds_toArray, List.set_cons_zero, List.set_cons_succ]
                refine take_at 24 (some 155) (.bool false) rfl rfl (by kernel_rfl) (by kernel_rfl) (by kernel_rfl) (fun _ _ _ h => h) (by rfl) (fun W hSw => by obtain ⟨⟨q0, q1, _, _⟩, ⟨q2, q3, _, _⟩, ⟨q4, q5, _, _⟩⟩ := hSw; go_simp) hS0 ?_
                simp only [Act.put, List.setIfInBounds_toArray, List.set_cons_zero, List.set_cons_succ]
                refine take_at 25 (some 156) (.bool false) rfl rfl (by kernel_rfl) (by kernel_rfl) (by kernel_rfl) (fun _ _ _ h => h) (by rfl) (fun W hSw => by obtain ⟨⟨q0, q1, _, _⟩, ⟨q2, q3, _, _⟩, ⟨q4, q5, _, _⟩⟩ := hSw; go_simp) hS0 ?_
                simp only [Act.put, List.setIfInBounds_toArray, List.set_cons_zero, List.set_cons_succ]
                refine take_at 26 (some 157) (.agg #[.bool ob, .int .i64 xn]) rfl rfl (by kernel_rfl) (by kernel_rfl) (by kernel_rfl) (fun _ _ _ h => h) (by rfl) (fun W hSw => by obtain ⟨⟨q0, q1, _, _⟩, ⟨q2, q3, _, _⟩, ⟨q4, q5, _, _⟩⟩ := hSw; go_simp) hS0 ?_
                simp only [Act.put, List.setIfInBounds_toArray, List.set_cons_zero, List.set_cons_succ]
                refine take_at 27 (some 158) (.agg #[.bool oh, .int .i64 yn]) rfl rfl (by kernel_rfl) (by kernel_rfl) (by kernel_rfl) (fun _ _ _ h => h) (by rfl) (fun W hSw => by obtain ⟨⟨q0, q1, _, _⟩, ⟨q2, q3, _, _⟩, ⟨q4, q5, _, _⟩⟩ := hSw; go_simp) hS0 ?_
                simp only [Act.put, List.setIfInBounds_toArray, List.set_cons_zero, List.set_cons_succ]
                refine wpAnyH_ready (rs := [28]) (by kernel_rfl) (by simp) ?_
                refine AllReadyH.cons rfl (fun K hK => ?_) AllReadyH.nil
                go_simp
                refine (hcmp _).mono ?_
                rintro e wp ⟨rfl, hbp⟩
                have xAp := xA.later hbp
                have xBp := xB.later hbp
                have xCp := xC.later hbp
                clear xA xB xC
                have xA := xAp
                have xB := xBp
                have xC := xCp
                clear xAp xBp xCp
                have hSp := (⟨xA, xB, xC⟩ : (fun W : World => Box W A ob xn ∧ Box W B oh yn ∧ Box W C oz zn) wp)
                refine hK.out _ _ hSp (fun _ => ?_)
                clear hK K
                refine take_at 29 (some 160) (.bool false) rfl rfl (by kernel_rfl) (by kernel_rfl) (by kernel_rfl) (fun _ _ _ h => h) (by rfl) (fun W hSw => by exact run_gtr _ _ (.tmp 159) (.const (.int .i64 0)) cc 0 false rfl (by kernel_rfl) (by kernel_rfl) dc W) hSp ?_
                simp only [Act.put, List.setIfInBounds_toArray, List.set_cons_zero, List.set_cons_succ]
                refine take_at 30 (some 161) (.bool false) rfl rfl (by kernel_rfl) (by kernel_rfl) (by kernel_rfl) (fun _ _ _ h => h) (by rfl) (fun W hSw => by obtain ⟨⟨q0, q1, _, _⟩, ⟨q2, q3, _, _⟩, ⟨q4, q5, _, _⟩⟩ := hSw; go_simp) hSp ?_
                simp only [Act.put, List.setIfInBounds_toArray, List.set_cons_zero, List.set_cons_succ]
                refine take_at 31 (some 162) (.bool false) rfl rfl (by kernel_rfl) (by kernel_rfl) (by kernel_rfl) (fun _ _ _ h => h) (by rfl) (fun W hSw => by obtain ⟨⟨q0, q1, _, _⟩, ⟨q2, q3, _, _⟩, ⟨q4, q5, _, _⟩⟩ := hSw; go_simp) hSp ?_
                simp only [Act.put, List.setIfInBounds_toArray, List.set_cons_zero, List.set_cons_succ]
                refine take_at 32 (some 163) (.int .i64 S) rfl rfl (by kernel_rfl) (by kernel_rfl) (by kernel_rfl) (fun _ _ _ h => h) (by rfl) (fun W hSw => by obtain ⟨⟨q0, q1, _, _⟩, ⟨q2, q3, _, _⟩, ⟨q4, q5, _, _⟩⟩ := hSw; go_simp) hSp ?_
                simp only [Act.put, List.setIfInBounds_toArray, List.set_cons_zero, List.set_cons_succ]
                refine take_at 33 (some 164) (.bool false) rfl rfl (by kernel_rfl) (by kernel_rfl) (by kernel_rfl) (fun _ _ _ h => h) (by rfl) (fun W hSw => by exact run_eqlI _ _ (.tmp 163) (.const (.int .i64 0)) S 0 false rfl (by kernel_rfl) (by kernel_rfl) dz W) hSp ?_
                simp only [Act.put, List.setIfInBounds_toArray, List.set_cons_zero, List.set_cons_succ]
                refine take_at 34 (some 165) (.bool false) rfl rfl (by kernel_rfl) (by kernel_rfl) (by kernel_rfl) (fun _ _ _ h => h) (by rfl) (fun W hSw => by obtain ⟨⟨q0, q1, _, _⟩, ⟨q2, q3, _, _⟩, ⟨q4, q5, _, _⟩⟩ := hSw; go_simp) hSp ?_
                simp only [Act.put, List.setIfInBounds_toArray, List.set_cons_zero, List.set_cons_succ]
                refine skip_at 35 (some 166) rfl rfl (by kernel_rfl) (by kernel_rfl) (by kernel_rfl) (fun _ _ _ h => h) (by rfl) hSp ?_
                simp only [Act.put, List.setIfInBounds_toArray, List.set_cons_zero, List.set_cons_succ]
                refine skip_at 36 (some 167) rfl rfl (by kernel_rfl) (by kernel_rfl) (by kernel_rfl) (fun _ _ _ h => h) (by rfl) hSp ?_
                simp only [Act.put, List.setIfInBounds_toArray, List.set_cons_zero, List.set_cons_succ]
                refine skip_at 37 (some 168) rfl rfl (by kernel_rfl) (by kernel_rfl) (by kernel_rfl) (fun _ _ _ h => h) (by rfl) hSp ?_
                simp only [Act.put, List.setIfInBounds_toArray, List.set_cons_zero, List.set_cons_succ]
                refine skip_at 38 (some 169) rfl rfl (by kernel_rfl) (by kernel_rfl) (by kernel_rfl) (fun _ _ _ h => h) (by rfl) hSp ?_
                simp only [Act.put, List.setIfInBounds_toArray, List.set_cons_zero, List.set_cons_succ]
                refine take_at 39 (some 170) (.bool false) rfl rfl (by kernel_rfl) (by kernel_rfl) (by kernel_rfl) (fun _ _ _ h => h) (by rfl) (fun W hSw => by obtain ⟨⟨q0, q1, _, _⟩, ⟨q2, q3, _, _⟩, ⟨q4, q5, _, _⟩⟩ := hSw; go_simp) hSp ?_
                simp only [Act.put, List.setIfInBounds_toArray, List.set_cons_zero, List.set_cons_succ]
                refine take_at 40 (some 171) (.bool false) rfl rfl (by kernel_rfl) (by kernel_rfl) (by kernel_rfl) (fun _ _ _ h => h) (by rfl) (fun W hSw => by obtain ⟨⟨q0, q1, _, _⟩, ⟨q2, q3, _, _⟩, ⟨q4, q5, _, _⟩⟩ := hSw; go_simp) hSp ?_
                simp only [Act.put, List.setIfInBounds_toArray, List.set_cons_zero, List.set_cons_succ]
                refine wpAnyH_done (by kernel_rfl) ?_ _
                refine NoPanic.normal ?_
                have g1 := (((s1.later (Below.refl _ _).drew).later hbp))
                have g2 := (((s2.later (Below.refl _ _).drew).later hbp))
                have g3 := (((s3.later (Below.refl _ _).drew).later hbp))
                have gb := Below.chain (hb.trans (Below.refl _ _).drew) hbp
                clear s1 s2 s3 hb xA xB xC hS0 hSp 
                have e1 := EN.out.1
                go_wp2
                go_roundw
                clear e1
                case rel => exact ⟨i + 1, by omega, by go_num, g1, g2, g3, gb⟩
                case measure => simp [intOf]; omega
      · have hd : decide ((i : Int) < (n : Int)) = false := decide_eq_false (by omega)
        go_wp2
        go_ret
        exact ⟨rfl, hb⟩
  · have hdn : decide ((80 : Int) < (n : Int)) = true := decide_eq_true (by omega)
    clear hs hl
    go_enter Try.func5, Try.ntmps5
    go_wp2_with fail
    refine (known_any _).mono ?_
    rintro e w1 ⟨rfl, hb1⟩
    go_wp2
    go_ret
    exact ⟨rfl, hb1⟩
end Go.Proofs.Ytpemknkkignmcaa
