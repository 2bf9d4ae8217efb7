/- ExpoBuilt: a name, labels with whatever signs, a number, a time, put together, are read as they are. -/
import Derived.Test.YtcbjhfnlhpallaaGreatDoorECmp
import Derived.Test.YtcbjhfnlhpallaaGreatDoorEOpen
import Derived.Test.YtcbjhfnlhpallaaGreatDoorBaseR
import Derived.Test.YtcbjhfnlhpallaaGreatDoorBaseG
namespace Go.Proofs.YtcbjhfnlhpallaaGreatDoor
open Go.RowKit

/-! ### Plain -/
def lsB (v : Str) : List Pr := [(nm, [117, 112]), ([97], v)]
theorem lsB_is {v : Str} (h : fVal v = true) : fIs (lsB v) = true := by
  rw [is_iff]
  refine ⟨by simp [lsB], ?_, ?_⟩
  · intro p hp
    simp [lsB] at hp
    rcases hp with rfl | rfl
    · exact ⟨by decide, by decide⟩
    · exact ⟨by show fName [97] = true; decide, h⟩
  · unfold rises lsB
    simp
    decide
theorem lsB_get (v : Str) : fGet (lsB v) nm = [117, 112] := rfl
theorem lsB_print {v : Str} (h : fVal v = true) : fPrint (lsB v) = [117, 112, 123, 97, 61] ++ ([34] ++ esc v ++ [34]) ++ [125] := by
  have hn : fName (fGet (lsB v) nm) = true := by rw [lsB_get]; decide
  have hm : metric (lsB v) = [117, 112] := by rw [metric_name hn, lsB_get]
  have ho : others (lsB v) = [([97], v)] := by
    unfold others
    rw [if_pos hn]
    simp [fWithout, lsB, nm]
  unfold fPrint
  rw [if_pos (lsB_is h), hm, ho, if_neg (by simp), inner_one]
  simp [pairT]
theorem num_len {x : Option Int} (h : Fx.V x) : (Fx.fPrint x).length ≤ 25 := by
  cases x with
  | none => decide
  | some n =>
    show ((if n < 0 then [45] else []) ++ Fx.prU n.natAbs).length ≤ 25
    have hn : n.natAbs ≤ 9223372036854775807 := by have h' : -9223372036854775807 ≤ n ∧ n ≤ 9223372036854775807 := h; omega
    have h1 : (Lib.decDigits (n.natAbs / 1000000)).length ≤ 13 := Fx.dec_le13 (by omega)
    have h2 : (if (n.natAbs % 1000000 = 0) then ([] : Str) else 46 :: Fx.fracT (n.natAbs % 1000000)).length ≤ 7 := by
      split
      · simp
      · have := (Fx.frac_facts (Nat.mod_lt n.natAbs (show 0 < 1000000 by decide))).2.1
        simp
        omega
    have h3 : (if n < 0 then ([45] : Str) else []).length ≤ 1 := by split <;> simp
    unfold Fx.prU
    rw [List.length_append, List.length_append]
    omega
def xB (v : Str) (o : Bool) (n : Int) (at_ : Nat) (has : Bool) : Scr := ⟨lsB v, o, n, if has = true then (at_ : Int) else 0, has, 0⟩
theorem xB_is {v : Str} {o : Bool} {n : Int} {a : Nat} {has : Bool} (hv : fVal v = true) (hi : Fx.fIs o n = true) (ha : a ≤ 1000000) : fIsS (xB v o n a has) = true := by
  rw [isS_iff]
  refine ⟨lsB_is hv, by show fName (fGet (lsB v) nm) = true; rw [lsB_get]; decide, hi, ?_, ?_, by simp [xB]⟩
  · cases has <;> simp [xB]; omega
  · cases has <;> simp [xB]
def tB (v : Str) (o : Bool) (n : Int) : Str := [117, 112, 123, 97, 61] ++ ([34] ++ esc v ++ [34]) ++ [125, 32] ++ Fx.fPrint (Fx.cnt o n)
theorem tB_line {v : Str} (o : Bool) (n : Int) (a : Nat) (h : fVal v = true) : sLine (xB v o n a false) = tB v o n := by
  unfold sLine xB tB
  rw [lsB_print h]
  simp
theorem tB_time {v : Str} (o : Bool) (n : Int) (a : Nat) (h : fVal v = true) : sLine (xB v o n a true) = tB v o n ++ [32] ++ Lib.decDigits a := by
  unfold sLine xB tB
  rw [lsB_print h]
  simp [Lib.itoa_nonneg]
theorem tB_len {v : Str} {o : Bool} {n : Int} (h : fVal v = true) (hn : Fx.R64 n) : (tB v o n).length ≤ 100 := by
  have h1 := esc_len v
  have h2 := (val_len h).2
  have h3 := num_len (Fx.V.cnt (o := o) hn.1 hn.2)
  unfold tB
  simp
  omega
theorem dec7 {a : Nat} (h : a ≤ 1000000) : (Lib.decDigits a).length ≤ 7 := Fx.dec_le 6 a (by omega)
theorem wd_nil : wd [] = [[]] := rfl
theorem tm_nil : tm [] = none := by decide
theorem num_nil : Fx.fParse [] = none := by decide
theorem blank_behind {x : Scr} (h : fIsS x = true) (hn : x.n ≤ 9223372036854775807) : lineE (sLine x ++ [32]) ≠ 0 := by
  obtain ⟨h1, h2, h3, h4, h5, h6⟩ := (isS_iff x).1 h
  have c1 := Closed.print h1
  have c2 := Closed.plain (num_plain (Fx.cnt x.ov x.n))
  have hs : fSet (fPrint x.ls) = true := by
    obtain ⟨p1, p2, p3⟩ := parse_print h1
    unfold fSet
    rw [p1, p3]
    exact h2
  obtain ⟨n1, _, _⟩ := num_back h3 hn
  unfold lineE
  split
  · decide
  · unfold sLine
    split
    · have e : fPrint x.ls ++ [32] ++ Fx.fPrint (Fx.cnt x.ov x.n) ++ 32 :: Lib.itoa x.t ++ [32] = fPrint x.ls ++ 32 :: (Fx.fPrint (Fx.cnt x.ov x.n) ++ 32 :: (Lib.itoa x.t ++ 32 :: [])) := by simp
      rw [e, wd_step c1, wd_step c2, wd_step (Closed.plain (itoa_plain h4.1)), wd_nil]
      show (12 : Int) ≠ 0
      decide
    · have e : fPrint x.ls ++ [32] ++ Fx.fPrint (Fx.cnt x.ov x.n) ++ [] ++ [32] = fPrint x.ls ++ 32 :: (Fx.fPrint (Fx.cnt x.ov x.n) ++ 32 :: []) := by simp
      rw [e, wd_step c1, wd_step c2, wd_nil]
      simp [wE, hs, n1, Fx.pe, tm_nil]
def gB (v : Str) (o : Bool) (n : Int) : Str := [117, 112, 123, 97, 61] ++ ([34] ++ esc v ++ [34]) ++ [125, 32, 32] ++ Fx.fPrint (Fx.cnt o n)
theorem blank_between {v : Str} (o : Bool) (n : Int) (h : fVal v = true) : lineE (gB v o n) ≠ 0 := by
  have h1 := lsB_is h
  have c1 := Closed.print h1
  have hs : fSet (fPrint (lsB v)) = true := by
    obtain ⟨p1, p2, p3⟩ := parse_print h1
    unfold fSet
    rw [p1, p3, lsB_get]
    decide
  unfold lineE
  split
  · decide
  · have e : gB v o n = fPrint (lsB v) ++ 32 :: ([] ++ 32 :: Fx.fPrint (Fx.cnt o n)) := by
      rw [lsB_print h]
      simp [gB]
    rw [e, wd_step c1, wd_step Closed.nil, wd_end (Closed.plain (num_plain (Fx.cnt o n)))]
    simp [wE, hs, num_nil, Fx.pe]
theorem rVal_val {v : Str} (h0 : v ≠ []) : rVal v = fVal v := by
  have : 1 ≤ v.length := by
    cases v with
    | nil => exact absurd rfl h0
    | cons a b => simp
  unfold fVal
  rw [decide_eq_true this]
  unfold rVal
  rw [Bool.true_and, Bool.and_comm]

/-! ### The law -/
set_option maxRecDepth 40000 in
set_option maxHeartbeats 16000000 in
theorem built_any (v : Str) (o : Bool) (n : Int) (t : Nat) (has : Bool) (w : World) (hvl : v.length ≤ 9223372036854775807) (hn : -9223372036854775808 ≤ n ∧ n ≤ 9223372036854775807) (ht : t < 4294967296) (he : Ev w) : Calls Tryz.prog 6 #[tx v, .agg #[.bool o, .int .i64 n], .int .u32 t, .bool has] w fun e w' => e = .returned (.bool true) ∧ Below w.heap.size w w' := by
  have hb0 := bal (Below.refl _ w) (.cells #[.bool o, .int .i64 n] 32)
  have hnb := Fx.Box.new w o n
  have hk := known_any _ (he.later hb0)
  have hR : Fx.R64 n := hn
  have his := Fx.is_any o n
  have hrv := fun W => refValue_any v W hvl
  by_cases h0 : v = []
  · have h0' : ((v.length : Int) == 0) = true := by rw [h0]; rfl
    clear h0
    go_enter Tryz.func6, Tryz.ntmps6
    go_wp2_with fail
    generalize w.alloc (.cells _ 32) = w0 at *
    refine hk.mono ?_
    rintro e w1 ⟨rfl, hb1⟩
    go_wp2
    go_ret
    exact ⟨rfl, Below.chain hb0 hb1⟩
  · have h0' : ((v.length : Int) == 0) = false := by rw [beq_eq_false_iff_ne]; intro e; exact h0 (List.length_eq_zero_iff.1 (by omega))
    have hrw := rVal_val h0
    by_cases h30 : (30 : Int) < v.length
    · clear h0
      go_enter Tryz.func6, Tryz.ntmps6
      go_wp2_with fail
      generalize w.alloc (.cells _ 32) = w0 at *
      refine hk.mono ?_
      rintro e w1 ⟨rfl, hb1⟩
      go_wp2
      go_ret
      exact ⟨rfl, Below.chain hb0 hb1⟩
    · cases hi : Fx.fIs o n with
      | false =>
        rw [hi] at his
        clear h0
        go_enter Tryz.func6, Tryz.ntmps6
        go_wp2_with fail
        generalize w.alloc (.cells _ 32) = w0 at *
        refine hk.mono ?_
        rintro e w1 ⟨rfl, hb1⟩
        obtain ⟨c0, c1, _⟩ := hnb.later hb1
        go_wp2_with fail
        refine (his _).mono ?_
        rintro e w2 ⟨rfl, hb2⟩
        go_wp2
        go_ret
        exact ⟨rfl, Below.chain (Below.chain hb0 hb1) hb2⟩
      | true =>
        rw [hi] at his
        cases hv : fVal v with
        | false =>
          rw [hrw, hv] at hrv
          clear h0 hrw
          go_enter Tryz.func6, Tryz.ntmps6
          go_wp2_with fail
          generalize w.alloc (.cells _ 32) = w0 at *
          refine hk.mono ?_
          rintro e w1 ⟨rfl, hb1⟩
          obtain ⟨c0, c1, _⟩ := hnb.later hb1
          go_wp2_with fail
          refine (his _).mono ?_
          rintro e w2 ⟨rfl, hb2⟩
          go_wp2_with fail
          refine (hrv _).mono ?_
          rintro e w3 ⟨rfl, rfl⟩
          go_wp2
          go_ret
          exact ⟨rfl, Below.chain (Below.chain hb0 hb1) hb2⟩
        | true =>
          rw [hrw, hv] at hrv
          have hqu := fun W => refQuote_any v W (by omega)
          have hpr := fun W (h : Ev W) => Fx.print_any o n W hR h.tab
          obtain ⟨AT, hAT⟩ : ∃ a, a = t % 1000001 := ⟨_, rfl⟩
          have hATl : AT ≤ 1000000 := by omega
          have hATi : ((t : Int) % 1000001) = (AT : Int) := by omega
          have hdg := fun W => Fx.rdigits_any AT W (by omega)
          have hd7 := dec7 hATl
          have htl := tB_len (o := o) hv hR
          have hel := esc_len v
          have hnl := num_len (Fx.V.cnt (o := o) hR.1 hR.2)
          have HT0 : Hid _ := tB_line o n AT hv
          have HT1 : Hid _ := tB_time o n AT hv
          have HX : Hid (∀ has, fIsS (xB v o n AT has) = true) := fun has => xB_is hv hi hATl
          have HG : Hid _ := blank_between o n hv
          have HTB : Hid (tB v o n = ((([117, 112, 123, 97, 61] ++ ([34] ++ esc v ++ [34])) ++ [125, 32]) ++ Fx.fPrint (Fx.cnt o n))) := rfl
          have HGB : Hid (gB v o n = ((([117, 112, 123, 97, 61] ++ ([34] ++ esc v ++ [34])) ++ [125, 32, 32]) ++ Fx.fPrint (Fx.cnt o n))) := rfl
          have hq := eql_num o o n n
          have hqt : decide (o = o ∧ n = n) = true := by simp
          rw [hqt] at hq
          have hg := guard_num
          clear hAT hrw hqt
          obtain ⟨q, Hq⟩ : ∃ t, t = [34] ++ esc v ++ [34] := ⟨_, rfl⟩
          have hql : q.length ≤ 62 := by rw [Hq]; simp; omega
          rw [← Hq] at hqu HTB HGB
          clear Hq
          obtain ⟨pn, Hp⟩ : ∃ t, t = Fx.fPrint (Fx.cnt o n) := ⟨_, rfl⟩
          rw [← Hp] at hpr HTB HGB hnl
          clear Hp
          obtain ⟨t1, h1⟩ : ∃ t, t = [117, 112, 123, 97, 61] ++ q := ⟨_, rfl⟩
          obtain ⟨t2, h2⟩ : ∃ t, t = t1 ++ [125, 32] := ⟨_, rfl⟩
          obtain ⟨t3, h3⟩ : ∃ t, t = t1 ++ [125, 32, 32] := ⟨_, rfl⟩
          rw [← h1, ← h2] at HTB
          rw [← h1, ← h3] at HGB
          have H1 : Hid _ := h1
          have H2 : Hid _ := h2
          have H3 : Hid _ := h3
          have l1 : t1.length ≤ 67 := by rw [h1]; simp; omega
          have l2 : t2.length ≤ 69 := by rw [h2]; simp; omega
          have l3 : t3.length ≤ 70 := by rw [h3]; simp; omega
          clear h1 h2 h3 hel
          obtain ⟨T, hT⟩ : ∃ t, t = tB v o n := ⟨_, rfl⟩
          obtain ⟨GT, hGT⟩ : ∃ t, t = gB v o n := ⟨_, rfl⟩
          rw [← hT] at HTB htl HT0 HT1
          rw [← hGT] at HGB HG
          clear hT hGT
          have hgl : GT.length ≤ 200 := by rw [HGB.out]; simp; omega
          have hlg := fun W (h : Ev W) => line_any GT W (by omega) h
          cases has with
          | true =>
            have HXh : Hid _ := HX.out true
            obtain ⟨S0, hS0⟩ : ∃ t, t = T ++ [32] := ⟨_, rfl⟩
            obtain ⟨S, hS⟩ : ∃ t, t = S0 ++ Lib.decDigits AT := ⟨_, rfl⟩
            have HS : Hid (sLine (xB v o n AT true) = S) := by show _ = _; rw [HT1.out, hS, hS0]
            have hap0 : ((⟨T.toArray⟩ : ByteArray) ++ ⟨#[32]⟩) = ⟨S0.toArray⟩ := by rw [hS0]; exact ba_append _ _
            have hap1 : ((⟨S0.toArray⟩ : ByteArray) ++ ⟨(Lib.decDigits AT).toArray⟩) = ⟨S.toArray⟩ := by rw [hS]; exact ba_append _ _
            have hS0l : S0.length ≤ 101 := by rw [hS0]; simp; omega
            have hSl : S.length ≤ 120 := by rw [hS]; simp; omega
            clear hS0 hS
            generalize Lib.decDigits AT = DG at *
            obtain ⟨SB, hSB⟩ : ∃ t, t = S ++ [32] := ⟨_, rfl⟩
            have hapB : ((⟨S.toArray⟩ : ByteArray) ++ ⟨#[32]⟩) = ⟨SB.toArray⟩ := by rw [hSB]; exact ba_append _ _
            have hSBl : SB.length ≤ 130 := by rw [hSB]; simp; omega
            have HF : Hid (lineE SB ≠ 0) := by show _ ≠ _; rw [hSB, ← HS.out]; exact blank_behind HXh.out hR.2
            have hl0 := line_sLine HXh.out hR.2 (by rw [HS.out]; omega)
            rw [HS.out] at hl0
            have hls := fun W (h : Ev W) => line_any S W (by omega) h
            have hlb := fun W (h : Ev W) => line_any SB W (by omega) h
            rw [hl0.1, hl0.2] at hls
            have HXX : Hid (setK (xB v o n AT true) 0 = xB v o n AT true) := rfl
            rw [HXX.out] at hls
            obtain ⟨xX, hxX⟩ : ∃ t, t = xB v o n AT true := ⟨_, rfl⟩
            rw [← hxX] at hls
            have x1 : Hid (xX.ls = lsB v) := by show _ = _; rw [hxX]; rfl
            have x2 : Hid (xX.ov = o) := by show _ = _; rw [hxX]; rfl
            have x3 : Hid (xX.n = n) := by show _ = _; rw [hxX]; rfl
            have x4 : Hid (xX.has = true) := by show _ = _; rw [hxX]; rfl
            have x5 : Hid (xX.t = (AT : Int)) := by show _ = _; rw [hxX]; rfl
            have x6 : Hid (xX.ls.length = 2) := by show _ = _; rw [x1.out]; rfl
            clear hxX HXX hl0 HXh hSB HS HX
            have hFe : (lineE SB != 0) = true := by rw [bne_iff_ne]; exact HF.out
            have hGe : (lineE GT != 0) = true := by rw [bne_iff_ne]; exact HG.out
            generalize lineE SB = EF at *
            generalize lineE GT = EG at *
            generalize lineS SB = yX at *
            generalize lineS GT = zX at *
            clear HF HG
            clear HT0 HT1
            go_enter Tryz.func6, Tryz.ntmps6
            go_wp2_with fail
            generalize w.alloc (.cells _ 32) = w0 at *
            refine hk.mono ?_
            rintro e w1 ⟨rfl, hb1⟩
            obtain ⟨c0, c1, _⟩ := hnb.later hb1
            go_wp2_with fail
            refine (his _).mono ?_
            rintro e w2 ⟨rfl, hb2⟩
            go_wp2_with fail
            refine (hrv _).mono ?_
            rintro e w3 ⟨rfl, rfl⟩
            have B2 := Below.chain (Below.chain hb0 hb1) hb2
            have hn2 := (hnb.later hb1).later hb2
            clear c0 c1
            go_wp2_with fail
            have C0 : Below w2.heap.size w2 w2.drew := (Below.refl _ _).drew
            refine wp_region_noPanic ?_
            refine wp_region_held_drew (S := fun W => Below w2.heap.size w2 W) (by kernel_rfl) ?_ (fun _ => ?_)
            · exact C0
            generalize w2.drew = w3 at *
            refine take_at 0 (some 37) (tx v) rfl rfl (by kernel_rfl) (by kernel_rfl) (by kernel_rfl) (fun _ _ _ h => h) (by rfl) (fun W hSw => by go_simp) C0 ?_
            simp only [Act.put, List.setIfInBounds_toArray, List.set_cons_zero, List.set_cons_succ]
            refine take_at 4 (some 41) (.agg #[.bool o, .int .i64 n]) rfl rfl (by kernel_rfl) (by kernel_rfl) (by kernel_rfl) (fun _ _ _ h => h) (by rfl) (fun W hSw => by obtain ⟨c0, c1, _⟩ := hn2.later hSw; go_simp) C0 ?_
            simp only [Act.put, List.setIfInBounds_toArray, List.set_cons_zero, List.set_cons_succ]
            refine wpAnyH_ready (rs := [1]) (by kernel_rfl) (by simp) ?_
            refine AllReadyH.cons rfl (fun K hK => ?_) AllReadyH.nil
            go_simp
            refine (hqu _).mono ?_
            rintro e w4 ⟨rfl, rfl⟩
            refine hK.out _ _ ?_ (fun _ => ?_)
            · exact C0
            clear hK K
            refine take_at 2 (some 39) (tx t1) rfl rfl (by kernel_rfl) (by kernel_rfl) (by kernel_rfl) (fun _ _ _ h => h) (by rfl) (fun W hSw => by exact exec_add rfl [117, 112, 123, 97, 61] q rfl rfl (by simp; omega) t1 H1.out W) C0 ?_
            simp only [Act.put, List.setIfInBounds_toArray, List.set_cons_zero, List.set_cons_succ]
            refine take_at 3 (some 40) (tx t2) rfl rfl (by kernel_rfl) (by kernel_rfl) (by kernel_rfl) (fun _ _ _ h => h) (by rfl) (fun W hSw => by exact exec_add rfl t1 [125, 32] rfl rfl (by simp; omega) t2 H2.out W) C0 ?_
            simp only [Act.put, List.setIfInBounds_toArray, List.set_cons_zero, List.set_cons_succ]
            refine wpAnyH_ready (rs := [5]) (by kernel_rfl) (by simp) ?_
            refine AllReadyH.cons rfl (fun K hK => ?_) AllReadyH.nil
            go_simp
            refine (hpr _ (he.later (Below.chain B2 C0))).mono ?_
            rintro e w4 ⟨rfl, hb4⟩
            have C4 := Below.chain C0 hb4
            refine hK.out _ _ ?_ (fun _ => ?_)
            · exact C4
            clear hK K
            refine take_at 6 (some 43) (tx T) rfl rfl (by kernel_rfl) (by kernel_rfl) (by kernel_rfl) (fun _ _ _ h => h) (by rfl) (fun W hSw => by exact exec_add rfl t2 pn rfl rfl (by omega) T HTB.out W) C4 ?_
            simp only [Act.put, List.setIfInBounds_toArray, List.set_cons_zero, List.set_cons_succ]
            refine take_at 7 (some 9) (tx T) rfl rfl (by kernel_rfl) (by kernel_rfl) (by kernel_rfl) (fun _ _ _ h => h) (by rfl) (fun W hSw => by go_simp) C4 ?_
            simp only [Act.put, List.setIfInBounds_toArray, List.set_cons_zero, List.set_cons_succ]
            refine wpAnyH_done (by kernel_rfl) ?_ _
            refine NoPanic.normal ?_
            have B4 := Below.chain B2 C4
            have hn4 := hn2.later C4
            go_wp2_with fail
            refine (hdg _).mono ?_
            rintro e w5 ⟨rfl, hb5⟩
            have B5 := Below.chain B4 hb5
            have hn5 := hn4.later hb5
            go_wp2_with fail
            refine (hls _ (he.later B5)).mono ?_
            rintro e w6 ⟨v6, rfl, ho6, hb6⟩
            obtain ⟨xa, xc, rfl, hpx⟩ := ho6.fitN
            have hb7 := bal hb6 (.cells #[.slice xa xX.ls.length xc, .bool xX.ov, .int .i64 xX.n, .int .i64 xX.t, .bool xX.has, .int .i64 xX.kind] 34)
            have hx7 := BoxX.new w6 (.slice xa xX.ls.length xc) xX
            have hp7 := hpx.later (bal (Below.refl _ w6) (.cells #[.slice xa xX.ls.length xc, .bool xX.ov, .int .i64 xX.n, .int .i64 xX.t, .bool xX.has, .int .i64 xX.kind] 34))
            have B7 := Below.chain B5 hb7
            have hn7 := hn5.later hb7
            clear hpx ho6
            go_wp2_with fail
            generalize w6.alloc (.cells #[.slice xa xX.ls.length xc, .bool xX.ov, .int .i64 xX.n, .int .i64 xX.t, .bool xX.has, .int .i64 xX.kind] 34) = w7 at *
            refine (hlb _ (he.later B7)).mono ?_
            rintro e w8 ⟨v8, rfl, ho8, hb8⟩
            obtain ⟨ya, yc, rfl, _⟩ := ho8.fitN
            have hb9 := bal hb8 (.cells #[.slice ya yX.ls.length yc, .bool yX.ov, .int .i64 yX.n, .int .i64 yX.t, .bool yX.has, .int .i64 yX.kind] 34)
            have B9 := Below.chain B7 hb9
            have hn9 := hn7.later hb9
            have hx9 := hx7.later hb9
            have hp9 := hp7.later hb9
            clear ho8 hx7 hp7
            go_wp2_with fail
            generalize w8.alloc (.cells #[.slice ya yX.ls.length yc, .bool yX.ov, .int .i64 yX.n, .int .i64 yX.t, .bool yX.has, .int .i64 yX.kind] 34) = w9 at *
            have D0 : Below w9.heap.size w9 w9.drew := (Below.refl _ _).drew
            refine wp_region_noPanic ?_
            refine wp_region_held_drew (S := fun W => Below w9.heap.size w9 W) (by kernel_rfl) ?_ (fun _ => ?_)
            · exact D0
            generalize w9.drew = wd at *
            refine take_at 0 (some 66) (tx v) rfl rfl (by kernel_rfl) (by kernel_rfl) (by kernel_rfl) (fun _ _ _ h => h) (by rfl) (fun W hSw => by go_simp) D0 ?_
            simp only [Act.put, List.setIfInBounds_toArray, List.set_cons_zero, List.set_cons_succ]
            refine take_at 4 (some 70) (.agg #[.bool o, .int .i64 n]) rfl rfl (by kernel_rfl) (by kernel_rfl) (by kernel_rfl) (fun _ _ _ h => h) (by rfl) (fun W hSw => by obtain ⟨c0, c1, _⟩ := hn9.later hSw; go_simp) D0 ?_
            simp only [Act.put, List.setIfInBounds_toArray, List.set_cons_zero, List.set_cons_succ]
            refine wpAnyH_ready (rs := [1, 11]) (by kernel_rfl) (by simp) ?_
            refine AllReadyH.cons rfl (fun K hK => ?_) (AllReadyH.cons rfl (fun K hK => ?_) AllReadyH.nil)
            · go_simp
              refine (hqu _).mono ?_
              rintro e wq ⟨rfl, rfl⟩
              refine hK.out _ _ ?_ (fun _ => ?_)
              · exact D0
              clear hK K
              refine take_at 2 (some 68) (tx t1) rfl rfl (by kernel_rfl) (by kernel_rfl) (by kernel_rfl) (fun _ _ _ h => h) (by rfl) (fun W hSw => by exact exec_add rfl [117, 112, 123, 97, 61] q rfl rfl (by simp; omega) t1 H1.out W) D0 ?_
              simp only [Act.put, List.setIfInBounds_toArray, List.set_cons_zero, List.set_cons_succ]
              refine take_at 3 (some 69) (tx t3) rfl rfl (by kernel_rfl) (by kernel_rfl) (by kernel_rfl) (fun _ _ _ h => h) (by rfl) (fun W hSw => by exact exec_add rfl t1 [125, 32, 32] rfl rfl (by simp; omega) t3 H3.out W) D0 ?_
              simp only [Act.put, List.setIfInBounds_toArray, List.set_cons_zero, List.set_cons_succ]
              refine wpAnyH_ready (rs := [5, 11]) (by kernel_rfl) (by simp) ?_
              refine AllReadyH.cons rfl (fun K hK => ?_) (AllReadyH.cons rfl (fun K hK => ?_) AllReadyH.nil)
              · go_simp
                refine (hpr _ (he.later (Below.chain B9 D0))).mono ?_
                rintro e wa ⟨rfl, hba⟩
                have Da := Below.chain D0 hba
                refine hK.out _ _ ?_ (fun _ => ?_)
                · exact Da
                clear hK K
                refine take_at 6 (some 72) (tx GT) rfl rfl (by kernel_rfl) (by kernel_rfl) (by kernel_rfl) (fun _ _ _ h => h) (by rfl) (fun W hSw => by exact exec_add rfl t3 pn rfl rfl (by omega) GT HGB.out W) Da ?_
                simp only [Act.put, List.setIfInBounds_toArray, List.set_cons_zero, List.set_cons_succ]
                refine wpAnyH_ready (rs := [7, 11]) (by kernel_rfl) (by simp) ?_
                refine AllReadyH.cons rfl (fun K hK => ?_) (AllReadyH.cons rfl (fun K hK => ?_) AllReadyH.nil)
                · go_simp
                  refine (hlg _ (he.later (Below.chain B9 Da))).mono ?_
                  rintro e wb ⟨vb, rfl, hob, hbb⟩
                  obtain ⟨za, zc, rfl, _⟩ := hob.fitN
                  have Db := Below.chain Da hbb
                  refine hK.out _ _ ?_ (fun _ => ?_)
                  · exact Db
                  clear hK K
                  refine take_at 8 (some 65) (.tuple #[.agg #[.slice za zX.ls.length zc, .bool zX.ov, .int .i64 zX.n, .int .i64 zX.t, .bool zX.has, .int .i64 zX.kind], .int .i64 EG]) rfl rfl (by kernel_rfl) (by kernel_rfl) (by kernel_rfl) (fun _ _ _ h => h) (by rfl) (fun W hSw => by go_simp) Db ?_
                  simp only [Act.put, List.setIfInBounds_toArray, List.set_cons_zero, List.set_cons_succ]
                  refine take_at 9 (some 74) (.agg #[.slice za zX.ls.length zc, .bool zX.ov, .int .i64 zX.n, .int .i64 zX.t, .bool zX.has, .int .i64 zX.kind]) rfl rfl (by kernel_rfl) (by kernel_rfl) (by kernel_rfl) (fun _ _ _ h => h) (by rfl) (fun W hSw => by go_simp) Db ?_
                  simp only [Act.put, List.setIfInBounds_toArray, List.set_cons_zero, List.set_cons_succ]
                  refine take_at 10 (some 75) (.int .i64 EG) rfl rfl (by kernel_rfl) (by kernel_rfl) (by kernel_rfl) (fun _ _ _ h => h) (by rfl) (fun W hSw => by go_simp) Db ?_
                  simp only [Act.put, List.setIfInBounds_toArray, List.set_cons_zero, List.set_cons_succ]
                  refine wpAnyH_ready (rs := [11]) (by kernel_rfl) (by simp) ?_
                  refine AllReadyH.cons rfl (fun K hK => ?_) AllReadyH.nil
                  go_simp
                  have Dc := bal Db (.cells #[.slice none 0 0, .bool false, .int .i64 0, .int .i64 0, .bool false, .int .i64 0] 34)
                  have hzc : BoxX (wb.alloc (.cells #[.slice none 0 0, .bool false, .int .i64 0, .int .i64 0, .bool false, .int .i64 0] 34)) wb.heap.size (.slice none 0 0) scr0 := BoxX.new wb _ scr0
                  have hab : w9.heap.size ≤ wb.heap.size := Db.size
                  generalize wb.alloc (.cells #[.slice none 0 0, .bool false, .int .i64 0, .int .i64 0, .bool false, .int .i64 0] 34) = wc at *
                  generalize hAB : wb.heap.size = ab at hab hzc ⊢
                  clear hAB
                  refine hK.out _ _ ?_ (fun _ => ?_)
                  · exact Dc
                  clear hK K
                  refine wpAnyH_ready (rs := [12]) (by kernel_rfl) (by simp) ?_
                  refine AllReadyH.cons rfl (fun K hK => ?_) AllReadyH.nil
                  obtain ⟨c0, c1, c2, c3, c4, c5, f0, f1, f2, f3, f4, f5⟩ := hzc
                  go_simp
                  have De : Below w9.heap.size w9 ((((((wc.setCell ⟨ab, 0, none⟩ (.slice za zX.ls.length zc)).setCell ⟨ab, 1, none⟩ (.bool zX.ov)).setCell ⟨ab, 2, none⟩ (.int .i64 zX.n)).setCell ⟨ab, 3, none⟩ (.int .i64 zX.t)).setCell ⟨ab, 4, none⟩ (.bool zX.has)).setCell ⟨ab, 5, none⟩ (.int .i64 zX.kind)) := below6 (b := ab) Dc hab (.slice za zX.ls.length zc) (.bool zX.ov) (.int .i64 zX.n) (.int .i64 zX.t) (.bool zX.has) (.int .i64 zX.kind)
                  refine hK.out _ _ ?_ (fun _ => ?_)
                  · exact De
                  clear hK K
                  clear c0 c1 c2 c3 c4 c5 f0 f1 f2 f3 f4 f5
                  refine take_at 13 (some 16) (.int .i64 EG) rfl rfl (by kernel_rfl) (by kernel_rfl) (by kernel_rfl) (fun _ _ _ h => h) (by rfl) (fun W hSw => by go_simp) De ?_
                  simp only [Act.put, List.setIfInBounds_toArray, List.set_cons_zero, List.set_cons_succ]
                  refine wpAnyH_done (by kernel_rfl) ?_ _
                  refine NoPanic.normal ?_
                  have Be := Below.chain B9 De
                  have hne := hn9.later De
                  have hxe := hx9.later De
                  have hpe := hp9.later De
                  generalize ((((((wc.setCell ⟨ab, 0, none⟩ (.slice za zX.ls.length zc)).setCell ⟨ab, 1, none⟩ (.bool zX.ov)).setCell ⟨ab, 2, none⟩ (.int .i64 zX.n)).setCell ⟨ab, 3, none⟩ (.int .i64 zX.t)).setCell ⟨ab, 4, none⟩ (.bool zX.has)).setCell ⟨ab, 5, none⟩ (.int .i64 zX.kind)) = we at *
                  clear hn9 hx9 hp9
                  rw [x6.out] at hpe hxe
                  rw [x1.out] at hpe
                  obtain ⟨_, hpe'⟩ := hpe
                  obtain ⟨lb, lo, hlo, hpc⟩ := hpe' (by decide)
                  subst hlo
                  have u1 : we.cell? ⟨lb, lo + 2 + 1, none⟩ = some (tx v) := (hpc 1 (by decide)).2
                  obtain ⟨a0, a1, a2, a3, a4, a5, _⟩ := hxe
                  rw [x2.out] at a1
                  rw [x3.out] at a2
                  rw [x4.out] at a4
                  rw [x5.out] at a3
                  obtain ⟨d0, d1, _⟩ := hne
                  clear hpc hpe'
                  have hvv : (v == v) = true := by simp
                  have hat2 : ((AT : Int) == AT) = true := by simp
                  clear hnb hk his hrv hqu hpr hdg hlg hls hlb
                  rw [x6.out]
                  go_wp2
                  go_ret
                  exact ⟨rfl, Be⟩
                · go_simp
                  have Dc := bal Da (.cells #[.slice none 0 0, .bool false, .int .i64 0, .int .i64 0, .bool false, .int .i64 0] 34)
                  have hzc : BoxX (wa.alloc (.cells #[.slice none 0 0, .bool false, .int .i64 0, .int .i64 0, .bool false, .int .i64 0] 34)) wa.heap.size (.slice none 0 0) scr0 := BoxX.new wa _ scr0
                  have hab : w9.heap.size ≤ wa.heap.size := Da.size
                  generalize wa.alloc (.cells #[.slice none 0 0, .bool false, .int .i64 0, .int .i64 0, .bool false, .int .i64 0] 34) = wc at *
                  generalize hAB : wa.heap.size = ab at hab hzc ⊢
                  clear hAB
                  refine hK.out _ _ ?_ (fun _ => ?_)
                  · exact Dc
                  clear hK K
                  refine wpAnyH_ready (rs := [7]) (by kernel_rfl) (by simp) ?_
                  refine AllReadyH.cons rfl (fun K hK => ?_) AllReadyH.nil
                  go_simp
                  refine (hlg _ (he.later (Below.chain B9 Dc))).mono ?_
                  rintro e wb ⟨vb, rfl, hob, hbb⟩
                  obtain ⟨za, zc, rfl, _⟩ := hob.fitN
                  have Db := Below.chain Dc hbb
                  have hzc := hzc.later hbb
                  refine hK.out _ _ ?_ (fun _ => ?_)
                  · exact Db
                  clear hK K
                  refine take_at 8 (some 65) (.tuple #[.agg #[.slice za zX.ls.length zc, .bool zX.ov, .int .i64 zX.n, .int .i64 zX.t, .bool zX.has, .int .i64 zX.kind], .int .i64 EG]) rfl rfl (by kernel_rfl) (by kernel_rfl) (by kernel_rfl) (fun _ _ _ h => h) (by rfl) (fun W hSw => by go_simp) Db ?_
                  simp only [Act.put, List.setIfInBounds_toArray, List.set_cons_zero, List.set_cons_succ]
                  refine take_at 9 (some 74) (.agg #[.slice za zX.ls.length zc, .bool zX.ov, .int .i64 zX.n, .int .i64 zX.t, .bool zX.has, .int .i64 zX.kind]) rfl rfl (by kernel_rfl) (by kernel_rfl) (by kernel_rfl) (fun _ _ _ h => h) (by rfl) (fun W hSw => by go_simp) Db ?_
                  simp only [Act.put, List.setIfInBounds_toArray, List.set_cons_zero, List.set_cons_succ]
                  refine take_at 10 (some 75) (.int .i64 EG) rfl rfl (by kernel_rfl) (by kernel_rfl) (by kernel_rfl) (fun _ _ _ h => h) (by rfl) (fun W hSw => by go_simp) Db ?_
                  simp only [Act.put, List.setIfInBounds_toArray, List.set_cons_zero, List.set_cons_succ]
                  refine wpAnyH_ready (rs := [12]) (by kernel_rfl) (by simp) ?_
                  refine AllReadyH.cons rfl (fun K hK => ?_) AllReadyH.nil
                  obtain ⟨c0, c1, c2, c3, c4, c5, f0, f1, f2, f3, f4, f5⟩ := hzc
                  go_simp
                  have De : Below w9.heap.size w9 ((((((wb.setCell ⟨ab, 0, none⟩ (.slice za zX.ls.length zc)).setCell ⟨ab, 1, none⟩ (.bool zX.ov)).setCell ⟨ab, 2, none⟩ (.int .i64 zX.n)).setCell ⟨ab, 3, none⟩ (.int .i64 zX.t)).setCell ⟨ab, 4, none⟩ (.bool zX.has)).setCell ⟨ab, 5, none⟩ (.int .i64 zX.kind)) := below6 (b := ab) Db hab (.slice za zX.ls.length zc) (.bool zX.ov) (.int .i64 zX.n) (.int .i64 zX.t) (.bool zX.has) (.int .i64 zX.kind)
                  refine hK.out _ _ ?_ (fun _ => ?_)
                  · exact De
                  clear hK K
                  clear c0 c1 c2 c3 c4 c5 f0 f1 f2 f3 f4 f5
                  refine take_at 13 (some 16) (.int .i64 EG) rfl rfl (by kernel_rfl) (by kernel_rfl) (by kernel_rfl) (fun _ _ _ h => h) (by rfl) (fun W hSw => by go_simp) De ?_
                  simp only [Act.put, List.setIfInBounds_toArray, List.set_cons_zero, List.set_cons_succ]
                  refine wpAnyH_done (by kernel_rfl) ?_ _
                  refine NoPanic.normal ?_
                  have Be := Below.chain B9 De
                  have hne := hn9.later De
                  have hxe := hx9.later De
                  have hpe := hp9.later De
                  generalize ((((((wb.setCell ⟨ab, 0, none⟩ (.slice za zX.ls.length zc)).setCell ⟨ab, 1, none⟩ (.bool zX.ov)).setCell ⟨ab, 2, none⟩ (.int .i64 zX.n)).setCell ⟨ab, 3, none⟩ (.int .i64 zX.t)).setCell ⟨ab, 4, none⟩ (.bool zX.has)).setCell ⟨ab, 5, none⟩ (.int .i64 zX.kind)) = we at *
                  clear hn9 hx9 hp9
                  rw [x6.out] at hpe hxe
                  rw [x1.out] at hpe
                  obtain ⟨_, hpe'⟩ := hpe
                  obtain ⟨lb, lo, hlo, hpc⟩ := hpe' (by decide)
                  subst hlo
                  have u1 : we.cell? ⟨lb, lo + 2 + 1, none⟩ = some (tx v) := (hpc 1 (by decide)).2
                  obtain ⟨a0, a1, a2, a3, a4, a5, _⟩ := hxe
                  rw [x2.out] at a1
                  rw [x3.out] at a2
                  rw [x4.out] at a4
                  rw [x5.out] at a3
                  obtain ⟨d0, d1, _⟩ := hne
                  clear hpc hpe'
                  have hvv : (v == v) = true := by simp
                  have hat2 : ((AT : Int) == AT) = true := by simp
                  clear hnb hk his hrv hqu hpr hdg hlg hls hlb
                  rw [x6.out]
                  go_wp2
                  go_ret
                  exact ⟨rfl, Be⟩
              · go_simp
                have Dc := bal D0 (.cells #[.slice none 0 0, .bool false, .int .i64 0, .int .i64 0, .bool false, .int .i64 0] 34)
                have hzc : BoxX (wd.alloc (.cells #[.slice none 0 0, .bool false, .int .i64 0, .int .i64 0, .bool false, .int .i64 0] 34)) wd.heap.size (.slice none 0 0) scr0 := BoxX.new wd _ scr0
                have hab : w9.heap.size ≤ wd.heap.size := D0.size
                generalize wd.alloc (.cells #[.slice none 0 0, .bool false, .int .i64 0, .int .i64 0, .bool false, .int .i64 0] 34) = wc at *
                generalize hAB : wd.heap.size = ab at hab hzc ⊢
                clear hAB
                refine hK.out _ _ ?_ (fun _ => ?_)
                · exact Dc
                clear hK K
                refine wpAnyH_ready (rs := [5]) (by kernel_rfl) (by simp) ?_
                refine AllReadyH.cons rfl (fun K hK => ?_) AllReadyH.nil
                go_simp
                refine (hpr _ (he.later (Below.chain B9 Dc))).mono ?_
                rintro e wa ⟨rfl, hba⟩
                have Da := Below.chain Dc hba
                have hzc := hzc.later hba
                refine hK.out _ _ ?_ (fun _ => ?_)
                · exact Da
                clear hK K
                refine take_at 6 (some 72) (tx GT) rfl rfl (by kernel_rfl) (by kernel_rfl) (by kernel_rfl) (fun _ _ _ h => h) (by rfl) (fun W hSw => by exact exec_add rfl t3 pn rfl rfl (by omega) GT HGB.out W) Da ?_
                simp only [Act.put, List.setIfInBounds_toArray, List.set_cons_zero, List.set_cons_succ]
                refine wpAnyH_ready (rs := [7]) (by kernel_rfl) (by simp) ?_
                refine AllReadyH.cons rfl (fun K hK => ?_) AllReadyH.nil
                go_simp
                refine (hlg _ (he.later (Below.chain B9 Da))).mono ?_
                rintro e wb ⟨vb, rfl, hob, hbb⟩
                obtain ⟨za, zc, rfl, _⟩ := hob.fitN
                have Db := Below.chain Da hbb
                have hzc := hzc.later hbb
                refine hK.out _ _ ?_ (fun _ => ?_)
                · exact Db
                clear hK K
                refine take_at 8 (some 65) (.tuple #[.agg #[.slice za zX.ls.length zc, .bool zX.ov, .int .i64 zX.n, .int .i64 zX.t, .bool zX.has, .int .i64 zX.kind], .int .i64 EG]) rfl rfl (by kernel_rfl) (by kernel_rfl) (by kernel_rfl) (fun _ _ _ h => h) (by rfl) (fun W hSw => by go_simp) Db ?_
                simp only [Act.put, List.setIfInBounds_toArray, List.set_cons_zero, List.set_cons_succ]
                refine take_at 9 (some 74) (.agg #[.slice za zX.ls.length zc, .bool zX.ov, .int .i64 zX.n, .int .i64 zX.t, .bool zX.has, .int .i64 zX.kind]) rfl rfl (by kernel_rfl) (by kernel_rfl) (by kernel_rfl) (fun _ _ _ h => h) (by rfl) (fun W hSw => by go_simp) Db ?_
                simp only [Act.put, List.setIfInBounds_toArray, List.set_cons_zero, List.set_cons_succ]
                refine take_at 10 (some 75) (.int .i64 EG) rfl rfl (by kernel_rfl) (by kernel_rfl) (by kernel_rfl) (fun _ _ _ h => h) (by rfl) (fun W hSw => by go_simp) Db ?_
                simp only [Act.put, List.setIfInBounds_toArray, List.set_cons_zero, List.set_cons_succ]
                refine wpAnyH_ready (rs := [12]) (by kernel_rfl) (by simp) ?_
                refine AllReadyH.cons rfl (fun K hK => ?_) AllReadyH.nil
                obtain ⟨c0, c1, c2, c3, c4, c5, f0, f1, f2, f3, f4, f5⟩ := hzc
                go_simp
                have De : Below w9.heap.size w9 ((((((wb.setCell ⟨ab, 0, none⟩ (.slice za zX.ls.length zc)).setCell ⟨ab, 1, none⟩ (.bool zX.ov)).setCell ⟨ab, 2, none⟩ (.int .i64 zX.n)).setCell ⟨ab, 3, none⟩ (.int .i64 zX.t)).setCell ⟨ab, 4, none⟩ (.bool zX.has)).setCell ⟨ab, 5, none⟩ (.int .i64 zX.kind)) := below6 (b := ab) Db hab (.slice za zX.ls.length zc) (.bool zX.ov) (.int .i64 zX.n) (.int .i64 zX.t) (.bool zX.has) (.int .i64 zX.kind)
                refine hK.out _ _ ?_ (fun _ => ?_)
                · exact De
                clear hK K
                clear c0 c1 c2 c3 c4 c5 f0 f1 f2 f3 f4 f5
                refine take_at 13 (some 16) (.int .i64 EG) rfl rfl (by kernel_rfl) (by kernel_rfl) (by kernel_rfl) (fun _ _ _ h => h) (by rfl) (fun W hSw => by go_simp) De ?_
                simp only [Act.put, List.setIfInBounds_toArray, List.set_cons_zero, List.set_cons_succ]
                refine wpAnyH_done (by kernel_rfl) ?_ _
                refine NoPanic.normal ?_
                have Be := Below.chain B9 De
                have hne := hn9.later De
                have hxe := hx9.later De
                have hpe := hp9.later De
                generalize ((((((wb.setCell ⟨ab, 0, none⟩ (.slice za zX.ls.length zc)).setCell ⟨ab, 1, none⟩ (.bool zX.ov)).setCell ⟨ab, 2, none⟩ (.int .i64 zX.n)).setCell ⟨ab, 3, none⟩ (.int .i64 zX.t)).setCell ⟨ab, 4, none⟩ (.bool zX.has)).setCell ⟨ab, 5, none⟩ (.int .i64 zX.kind)) = we at *
                clear hn9 hx9 hp9
                rw [x6.out] at hpe hxe
                rw [x1.out] at hpe
                obtain ⟨_, hpe'⟩ := hpe
                obtain ⟨lb, lo, hlo, hpc⟩ := hpe' (by decide)
                subst hlo
                have u1 : we.cell? ⟨lb, lo + 2 + 1, none⟩ = some (tx v) := (hpc 1 (by decide)).2
                obtain ⟨a0, a1, a2, a3, a4, a5, _⟩ := hxe
                rw [x2.out] at a1
                rw [x3.out] at a2
                rw [x4.out] at a4
                rw [x5.out] at a3
                obtain ⟨d0, d1, _⟩ := hne
                clear hpc hpe'
                have hvv : (v == v) = true := by simp
                have hat2 : ((AT : Int) == AT) = true := by simp
                clear hnb hk his hrv hqu hpr hdg hlg hls hlb
                rw [x6.out]
                go_wp2
                go_ret
                exact ⟨rfl, Be⟩
            · go_simp
              have Dc := bal D0 (.cells #[.slice none 0 0, .bool false, .int .i64 0, .int .i64 0, .bool false, .int .i64 0] 34)
              have hzc : BoxX (wd.alloc (.cells #[.slice none 0 0, .bool false, .int .i64 0, .int .i64 0, .bool false, .int .i64 0] 34)) wd.heap.size (.slice none 0 0) scr0 := BoxX.new wd _ scr0
              have hab : w9.heap.size ≤ wd.heap.size := D0.size
              generalize wd.alloc (.cells #[.slice none 0 0, .bool false, .int .i64 0, .int .i64 0, .bool false, .int .i64 0] 34) = wc at *
              generalize hAB : wd.heap.size = ab at hab hzc ⊢
              clear hAB
              refine hK.out _ _ ?_ (fun _ => ?_)
              · exact Dc
              clear hK K
              refine wpAnyH_ready (rs := [1]) (by kernel_rfl) (by simp) ?_
              refine AllReadyH.cons rfl (fun K hK => ?_) AllReadyH.nil
              go_simp
              refine (hqu _).mono ?_
              rintro e wq ⟨rfl, rfl⟩
              refine hK.out _ _ ?_ (fun _ => ?_)
              · exact Dc
              clear hK K
              refine take_at 2 (some 68) (tx t1) rfl rfl (by kernel_rfl) (by kernel_rfl) (by kernel_rfl) (fun _ _ _ h => h) (by rfl) (fun W hSw => by exact exec_add rfl [117, 112, 123, 97, 61] q rfl rfl (by simp; omega) t1 H1.out W) Dc ?_
              simp only [Act.put, List.setIfInBounds_toArray, List.set_cons_zero, List.set_cons_succ]
              refine take_at 3 (some 69) (tx t3) rfl rfl (by kernel_rfl) (by kernel_rfl) (by kernel_rfl) (fun _ _ _ h => h) (by rfl) (fun W hSw => by exact exec_add rfl t1 [125, 32, 32] rfl rfl (by simp; omega) t3 H3.out W) Dc ?_
              simp only [Act.put, List.setIfInBounds_toArray, List.set_cons_zero, List.set_cons_succ]
              refine wpAnyH_ready (rs := [5]) (by kernel_rfl) (by simp) ?_
              refine AllReadyH.cons rfl (fun K hK => ?_) AllReadyH.nil
              go_simp
              refine (hpr _ (he.later (Below.chain B9 Dc))).mono ?_
              rintro e wa ⟨rfl, hba⟩
              have Da := Below.chain Dc hba
              have hzc := hzc.later hba
              refine hK.out _ _ ?_ (fun _ => ?_)
              · exact Da
              clear hK K
              refine take_at 6 (some 72) (tx GT) rfl rfl (by kernel_rfl) (by kernel_rfl) (by kernel_rfl) (fun _ _ _ h => h) (by rfl) (fun W hSw => by exact exec_add rfl t3 pn rfl rfl (by omega) GT HGB.out W) Da ?_
              simp only [Act.put, List.setIfInBounds_toArray, List.set_cons_zero, List.set_cons_succ]
              refine wpAnyH_ready (rs := [7]) (by kernel_rfl) (by simp) ?_
              refine AllReadyH.cons rfl (fun K hK => ?_) AllReadyH.nil
              go_simp
              refine (hlg _ (he.later (Below.chain B9 Da))).mono ?_
              rintro e wb ⟨vb, rfl, hob, hbb⟩
              obtain ⟨za, zc, rfl, _⟩ := hob.fitN
              have Db := Below.chain Da hbb
              have hzc := hzc.later hbb
              refine hK.out _ _ ?_ (fun _ => ?_)
              · exact Db
              clear hK K
              refine take_at 8 (some 65) (.tuple #[.agg #[.slice za zX.ls.length zc, .bool zX.ov, .int .i64 zX.n, .int .i64 zX.t, .bool zX.has, .int .i64 zX.kind], .int .i64 EG]) rfl rfl (by kernel_rfl) (by kernel_rfl) (by kernel_rfl) (fun _ _ _ h => h) (by rfl) (fun W hSw => by go_simp) Db ?_
              simp only [Act.put, List.setIfInBounds_toArray, List.set_cons_zero, List.set_cons_succ]
              refine take_at 9 (some 74) (.agg #[.slice za zX.ls.length zc, .bool zX.ov, .int .i64 zX.n, .int .i64 zX.t, .bool zX.has, .int .i64 zX.kind]) rfl rfl (by kernel_rfl) (by kernel_rfl) (by kernel_rfl) (fun _ _ _ h => h) (by rfl) (fun W hSw => by go_simp) Db ?_
              simp only [Act.put, List.setIfInBounds_toArray, List.set_cons_zero, List.set_cons_succ]
              refine take_at 10 (some 75) (.int .i64 EG) rfl rfl (by kernel_rfl) (by kernel_rfl) (by kernel_rfl) (fun _ _ _ h => h) (by rfl) (fun W hSw => by go_simp) Db ?_
              simp only [Act.put, List.setIfInBounds_toArray, List.set_cons_zero, List.set_cons_succ]
              refine wpAnyH_ready (rs := [12]) (by kernel_rfl) (by simp) ?_
              refine AllReadyH.cons rfl (fun K hK => ?_) AllReadyH.nil
              obtain ⟨c0, c1, c2, c3, c4, c5, f0, f1, f2, f3, f4, f5⟩ := hzc
              go_simp
              have De : Below w9.heap.size w9 ((((((wb.setCell ⟨ab, 0, none⟩ (.slice za zX.ls.length zc)).setCell ⟨ab, 1, none⟩ (.bool zX.ov)).setCell ⟨ab, 2, none⟩ (.int .i64 zX.n)).setCell ⟨ab, 3, none⟩ (.int .i64 zX.t)).setCell ⟨ab, 4, none⟩ (.bool zX.has)).setCell ⟨ab, 5, none⟩ (.int .i64 zX.kind)) := below6 (b := ab) Db hab (.slice za zX.ls.length zc) (.bool zX.ov) (.int .i64 zX.n) (.int .i64 zX.t) (.bool zX.has) (.int .i64 zX.kind)
              refine hK.out _ _ ?_ (fun _ => ?_)
              · exact De
              clear hK K
              clear c0 c1 c2 c3 c4 c5 f0 f1 f2 f3 f4 f5
              refine take_at 13 (some 16) (.int .i64 EG) rfl rfl (by kernel_rfl) (by kernel_rfl) (by kernel_rfl) (fun _ _ _ h => h) (by rfl) (fun W hSw => by go_simp) De ?_
              simp only [Act.put, List.setIfInBounds_toArray, List.set_cons_zero, List.set_cons_succ]
              refine wpAnyH_done (by kernel_rfl) ?_ _
              refine NoPanic.normal ?_
              have Be := Below.chain B9 De
              have hne := hn9.later De
              have hxe := hx9.later De
              have hpe := hp9.later De
              generalize ((((((wb.setCell ⟨ab, 0, none⟩ (.slice za zX.ls.length zc)).setCell ⟨ab, 1, none⟩ (.bool zX.ov)).setCell ⟨ab, 2, none⟩ (.int .i64 zX.n)).setCell ⟨ab, 3, none⟩ (.int .i64 zX.t)).setCell ⟨ab, 4, none⟩ (.bool zX.has)).setCell ⟨ab, 5, none⟩ (.int .i64 zX.kind)) = we at *
              clear hn9 hx9 hp9
              rw [x6.out] at hpe hxe
              rw [x1.out] at hpe
              obtain ⟨_, hpe'⟩ := hpe
              obtain ⟨lb, lo, hlo, hpc⟩ := hpe' (by decide)
              subst hlo
              have u1 : we.cell? ⟨lb, lo + 2 + 1, none⟩ = some (tx v) := (hpc 1 (by decide)).2
              obtain ⟨a0, a1, a2, a3, a4, a5, _⟩ := hxe
              rw [x2.out] at a1
              rw [x3.out] at a2
              rw [x4.out] at a4
              rw [x5.out] at a3
              obtain ⟨d0, d1, _⟩ := hne
              clear hpc hpe'
              have hvv : (v == v) = true := by simp
              have hat2 : ((AT : Int) == AT) = true := by simp
              clear hnb hk his hrv hqu hpr hdg hlg hls hlb
              rw [x6.out]
              go_wp2
              go_ret
              exact ⟨rfl, Be⟩
          | false =>
            have HXh : Hid _ := HX.out false
            have HS : Hid (sLine (xB v o n AT false) = T) := HT0.out
            obtain ⟨S, hS⟩ : ∃ t, t = T := ⟨_, rfl⟩
            rw [← hS] at HS
            have hSl : S.length ≤ 120 := by rw [hS]; omega
            rw [← hS] at HTB htl
            clear hS HT0 HT1
            obtain ⟨SB, hSB⟩ : ∃ t, t = S ++ [32] := ⟨_, rfl⟩
            have hapB : ((⟨S.toArray⟩ : ByteArray) ++ ⟨#[32]⟩) = ⟨SB.toArray⟩ := by rw [hSB]; exact ba_append _ _
            have hSBl : SB.length ≤ 130 := by rw [hSB]; simp; omega
            have HF : Hid (lineE SB ≠ 0) := by show _ ≠ _; rw [hSB, ← HS.out]; exact blank_behind HXh.out hR.2
            have hl0 := line_sLine HXh.out hR.2 (by rw [HS.out]; omega)
            rw [HS.out] at hl0
            have hls := fun W (h : Ev W) => line_any S W (by omega) h
            have hlb := fun W (h : Ev W) => line_any SB W (by omega) h
            rw [hl0.1, hl0.2] at hls
            have HXX : Hid (setK (xB v o n AT false) 0 = xB v o n AT false) := rfl
            rw [HXX.out] at hls
            obtain ⟨xX, hxX⟩ : ∃ t, t = xB v o n AT false := ⟨_, rfl⟩
            rw [← hxX] at hls
            have x1 : Hid (xX.ls = lsB v) := by show _ = _; rw [hxX]; rfl
            have x2 : Hid (xX.ov = o) := by show _ = _; rw [hxX]; rfl
            have x3 : Hid (xX.n = n) := by show _ = _; rw [hxX]; rfl
            have x4 : Hid (xX.has = false) := by show _ = _; rw [hxX]; rfl
            have x5 : Hid (xX.t = 0) := by show _ = _; rw [hxX]; rfl
            have x6 : Hid (xX.ls.length = 2) := by show _ = _; rw [x1.out]; rfl
            clear hxX HXX hl0 HXh hSB HS HX
            have hFe : (lineE SB != 0) = true := by rw [bne_iff_ne]; exact HF.out
            have hGe : (lineE GT != 0) = true := by rw [bne_iff_ne]; exact HG.out
            generalize lineE SB = EF at *
            generalize lineE GT = EG at *
            generalize lineS SB = yX at *
            generalize lineS GT = zX at *
            clear HF HG
            go_enter Tryz.func6, Tryz.ntmps6
            go_wp2_with fail
            generalize w.alloc (.cells _ 32) = w0 at *
            refine hk.mono ?_
            rintro e w1 ⟨rfl, hb1⟩
            obtain ⟨c0, c1, _⟩ := hnb.later hb1
            go_wp2_with fail
            refine (his _).mono ?_
            rintro e w2 ⟨rfl, hb2⟩
            go_wp2_with fail
            refine (hrv _).mono ?_
            rintro e w3 ⟨rfl, rfl⟩
            have B2 := Below.chain (Below.chain hb0 hb1) hb2
            have hn2 := (hnb.later hb1).later hb2
            clear c0 c1
            go_wp2_with fail
            have C0 : Below w2.heap.size w2 w2.drew := (Below.refl _ _).drew
            refine wp_region_noPanic ?_
            refine wp_region_held_drew (S := fun W => Below w2.heap.size w2 W) (by kernel_rfl) ?_ (fun _ => ?_)
            · exact C0
            generalize w2.drew = w3 at *
            refine take_at 0 (some 37) (tx v) rfl rfl (by kernel_rfl) (by kernel_rfl) (by kernel_rfl) (fun _ _ _ h => h) (by rfl) (fun W hSw => by go_simp) C0 ?_
            simp only [Act.put, List.setIfInBounds_toArray, List.set_cons_zero, List.set_cons_succ]
            refine take_at 4 (some 41) (.agg #[.bool o, .int .i64 n]) rfl rfl (by kernel_rfl) (by kernel_rfl) (by kernel_rfl) (fun _ _ _ h => h) (by rfl) (fun W hSw => by obtain ⟨c0, c1, _⟩ := hn2.later hSw; go_simp) C0 ?_
            simp only [Act.put, List.setIfInBounds_toArray, List.set_cons_zero, List.set_cons_succ]
            refine wpAnyH_ready (rs := [1]) (by kernel_rfl) (by simp) ?_
            refine AllReadyH.cons rfl (fun K hK => ?_) AllReadyH.nil
            go_simp
            refine (hqu _).mono ?_
            rintro e w4 ⟨rfl, rfl⟩
            refine hK.out _ _ ?_ (fun _ => ?_)
            · exact C0
            clear hK K
            refine take_at 2 (some 39) (tx t1) rfl rfl (by kernel_rfl) (by kernel_rfl) (by kernel_rfl) (fun _ _ _ h => h) (by rfl) (fun W hSw => by exact exec_add rfl [117, 112, 123, 97, 61] q rfl rfl (by simp; omega) t1 H1.out W) C0 ?_
            simp only [Act.put, List.setIfInBounds_toArray, List.set_cons_zero, List.set_cons_succ]
            refine take_at 3 (some 40) (tx t2) rfl rfl (by kernel_rfl) (by kernel_rfl) (by kernel_rfl) (fun _ _ _ h => h) (by rfl) (fun W hSw => by exact exec_add rfl t1 [125, 32] rfl rfl (by simp; omega) t2 H2.out W) C0 ?_
            simp only [Act.put, List.setIfInBounds_toArray, List.set_cons_zero, List.set_cons_succ]
            refine wpAnyH_ready (rs := [5]) (by kernel_rfl) (by simp) ?_
            refine AllReadyH.cons rfl (fun K hK => ?_) AllReadyH.nil
            go_simp
            refine (hpr _ (he.later (Below.chain B2 C0))).mono ?_
            rintro e w4 ⟨rfl, hb4⟩
            have C4 := Below.chain C0 hb4
            refine hK.out _ _ ?_ (fun _ => ?_)
            · exact C4
            clear hK K
            refine take_at 6 (some 43) (tx S) rfl rfl (by kernel_rfl) (by kernel_rfl) (by kernel_rfl) (fun _ _ _ h => h) (by rfl) (fun W hSw => by exact exec_add rfl t2 pn rfl rfl (by omega) S HTB.out W) C4 ?_
            simp only [Act.put, List.setIfInBounds_toArray, List.set_cons_zero, List.set_cons_succ]
            refine take_at 7 (some 9) (tx S) rfl rfl (by kernel_rfl) (by kernel_rfl) (by kernel_rfl) (fun _ _ _ h => h) (by rfl) (fun W hSw => by go_simp) C4 ?_
            simp only [Act.put, List.setIfInBounds_toArray, List.set_cons_zero, List.set_cons_succ]
            refine wpAnyH_done (by kernel_rfl) ?_ _
            refine NoPanic.normal ?_
            have B4 := Below.chain B2 C4
            have hn4 := hn2.later C4
            have B5 := B4
            have hn5 := hn4
            generalize w4 = w5 at *
            go_wp2_with fail
            refine (hls _ (he.later B5)).mono ?_
            rintro e w6 ⟨v6, rfl, ho6, hb6⟩
            obtain ⟨xa, xc, rfl, hpx⟩ := ho6.fitN
            have hb7 := bal hb6 (.cells #[.slice xa xX.ls.length xc, .bool xX.ov, .int .i64 xX.n, .int .i64 xX.t, .bool xX.has, .int .i64 xX.kind] 34)
            have hx7 := BoxX.new w6 (.slice xa xX.ls.length xc) xX
            have hp7 := hpx.later (bal (Below.refl _ w6) (.cells #[.slice xa xX.ls.length xc, .bool xX.ov, .int .i64 xX.n, .int .i64 xX.t, .bool xX.has, .int .i64 xX.kind] 34))
            have B7 := Below.chain B5 hb7
            have hn7 := hn5.later hb7
            clear hpx ho6
            go_wp2_with fail
            generalize w6.alloc (.cells #[.slice xa xX.ls.length xc, .bool xX.ov, .int .i64 xX.n, .int .i64 xX.t, .bool xX.has, .int .i64 xX.kind] 34) = w7 at *
            refine (hlb _ (he.later B7)).mono ?_
            rintro e w8 ⟨v8, rfl, ho8, hb8⟩
            obtain ⟨ya, yc, rfl, _⟩ := ho8.fitN
            have hb9 := bal hb8 (.cells #[.slice ya yX.ls.length yc, .bool yX.ov, .int .i64 yX.n, .int .i64 yX.t, .bool yX.has, .int .i64 yX.kind] 34)
            have B9 := Below.chain B7 hb9
            have hn9 := hn7.later hb9
            have hx9 := hx7.later hb9
            have hp9 := hp7.later hb9
            clear ho8 hx7 hp7
            go_wp2_with fail
            generalize w8.alloc (.cells #[.slice ya yX.ls.length yc, .bool yX.ov, .int .i64 yX.n, .int .i64 yX.t, .bool yX.has, .int .i64 yX.kind] 34) = w9 at *
            have D0 : Below w9.heap.size w9 w9.drew := (Below.refl _ _).drew
            refine wp_region_noPanic ?_
            refine wp_region_held_drew (S := fun W => Below w9.heap.size w9 W) (by kernel_rfl) ?_ (fun _ => ?_)
            · exact D0
            generalize w9.drew = wd at *
            refine take_at 0 (some 66) (tx v) rfl rfl (by kernel_rfl) (by kernel_rfl) (by kernel_rfl) (fun _ _ _ h => h) (by rfl) (fun W hSw => by go_simp) D0 ?_
            simp only [Act.put, List.setIfInBounds_toArray, List.set_cons_zero, List.set_cons_succ]
            refine take_at 4 (some 70) (.agg #[.bool o, .int .i64 n]) rfl rfl (by kernel_rfl) (by kernel_rfl) (by kernel_rfl) (fun _ _ _ h => h) (by rfl) (fun W hSw => by obtain ⟨c0, c1, _⟩ := hn9.later hSw; go_simp) D0 ?_
            simp only [Act.put, List.setIfInBounds_toArray, List.set_cons_zero, List.set_cons_succ]
            refine wpAnyH_ready (rs := [1, 11]) (by kernel_rfl) (by simp) ?_
            refine AllReadyH.cons rfl (fun K hK => ?_) (AllReadyH.cons rfl (fun K hK => ?_) AllReadyH.nil)
            · go_simp
              refine (hqu _).mono ?_
              rintro e wq ⟨rfl, rfl⟩
              refine hK.out _ _ ?_ (fun _ => ?_)
              · exact D0
              clear hK K
              refine take_at 2 (some 68) (tx t1) rfl rfl (by kernel_rfl) (by kernel_rfl) (by kernel_rfl) (fun _ _ _ h => h) (by rfl) (fun W hSw => by exact exec_add rfl [117, 112, 123, 97, 61] q rfl rfl (by simp; omega) t1 H1.out W) D0 ?_
              simp only [Act.put, List.setIfInBounds_toArray, List.set_cons_zero, List.set_cons_succ]
              refine take_at 3 (some 69) (tx t3) rfl rfl (by kernel_rfl) (by kernel_rfl) (by kernel_rfl) (fun _ _ _ h => h) (by rfl) (fun W hSw => by exact exec_add rfl t1 [125, 32, 32] rfl rfl (by simp; omega) t3 H3.out W) D0 ?_
              simp only [Act.put, List.setIfInBounds_toArray, List.set_cons_zero, List.set_cons_succ]
              refine wpAnyH_ready (rs := [5, 11]) (by kernel_rfl) (by simp) ?_
              refine AllReadyH.cons rfl (fun K hK => ?_) (AllReadyH.cons rfl (fun K hK => ?_) AllReadyH.nil)
              · go_simp
                refine (hpr _ (he.later (Below.chain B9 D0))).mono ?_
                rintro e wa ⟨rfl, hba⟩
                have Da := Below.chain D0 hba
                refine hK.out _ _ ?_ (fun _ => ?_)
                · exact Da
                clear hK K
                refine take_at 6 (some 72) (tx GT) rfl rfl (by kernel_rfl) (by kernel_rfl) (by kernel_rfl) (fun _ _ _ h => h) (by rfl) (fun W hSw => by exact exec_add rfl t3 pn rfl rfl (by omega) GT HGB.out W) Da ?_
                simp only [Act.put, List.setIfInBounds_toArray, List.set_cons_zero, List.set_cons_succ]
                refine wpAnyH_ready (rs := [7, 11]) (by kernel_rfl) (by simp) ?_
                refine AllReadyH.cons rfl (fun K hK => ?_) (AllReadyH.cons rfl (fun K hK => ?_) AllReadyH.nil)
                · go_simp
                  refine (hlg _ (he.later (Below.chain B9 Da))).mono ?_
                  rintro e wb ⟨vb, rfl, hob, hbb⟩
                  obtain ⟨za, zc, rfl, _⟩ := hob.fitN
                  have Db := Below.chain Da hbb
                  refine hK.out _ _ ?_ (fun _ => ?_)
                  · exact Db
                  clear hK K
                  refine take_at 8 (some 65) (.tuple #[.agg #[.slice za zX.ls.length zc, .bool zX.ov, .int .i64 zX.n, .int .i64 zX.t, .bool zX.has, .int .i64 zX.kind], .int .i64 EG]) rfl rfl (by kernel_rfl) (by kernel_rfl) (by kernel_rfl) (fun _ _ _ h => h) (by rfl) (fun W hSw => by go_simp) Db ?_
                  simp only [Act.put, List.setIfInBounds_toArray, List.set_cons_zero, List.set_cons_succ]
                  refine take_at 9 (some 74) (.agg #[.slice za zX.ls.length zc, .bool zX.ov, .int .i64 zX.n, .int .i64 zX.t, .bool zX.has, .int .i64 zX.kind]) rfl rfl (by kernel_rfl) (by kernel_rfl) (by kernel_rfl) (fun _ _ _ h => h) (by rfl) (fun W hSw => by go_simp) Db ?_
                  simp only [Act.put, List.setIfInBounds_toArray, List.set_cons_zero, List.set_cons_succ]
                  refine take_at 10 (some 75) (.int .i64 EG) rfl rfl (by kernel_rfl) (by kernel_rfl) (by kernel_rfl) (fun _ _ _ h => h) (by rfl) (fun W hSw => by go_simp) Db ?_
                  simp only [Act.put, List.setIfInBounds_toArray, List.set_cons_zero, List.set_cons_succ]
                  refine wpAnyH_ready (rs := [11]) (by kernel_rfl) (by simp) ?_
                  refine AllReadyH.cons rfl (fun K hK => ?_) AllReadyH.nil
                  go_simp
                  have Dc := bal Db (.cells #[.slice none 0 0, .bool false, .int .i64 0, .int .i64 0, .bool false, .int .i64 0] 34)
                  have hzc : BoxX (wb.alloc (.cells #[.slice none 0 0, .bool false, .int .i64 0, .int .i64 0, .bool false, .int .i64 0] 34)) wb.heap.size (.slice none 0 0) scr0 := BoxX.new wb _ scr0
                  have hab : w9.heap.size ≤ wb.heap.size := Db.size
                  generalize wb.alloc (.cells #[.slice none 0 0, .bool false, .int .i64 0, .int .i64 0, .bool false, .int .i64 0] 34) = wc at *
                  generalize hAB : wb.heap.size = ab at hab hzc ⊢
                  clear hAB
                  refine hK.out _ _ ?_ (fun _ => ?_)
                  · exact Dc
                  clear hK K
                  refine wpAnyH_ready (rs := [12]) (by kernel_rfl) (by simp) ?_
                  refine AllReadyH.cons rfl (fun K hK => ?_) AllReadyH.nil
                  obtain ⟨c0, c1, c2, c3, c4, c5, f0, f1, f2, f3, f4, f5⟩ := hzc
                  go_simp
                  have De : Below w9.heap.size w9 ((((((wc.setCell ⟨ab, 0, none⟩ (.slice za zX.ls.length zc)).setCell ⟨ab, 1, none⟩ (.bool zX.ov)).setCell ⟨ab, 2, none⟩ (.int .i64 zX.n)).setCell ⟨ab, 3, none⟩ (.int .i64 zX.t)).setCell ⟨ab, 4, none⟩ (.bool zX.has)).setCell ⟨ab, 5, none⟩ (.int .i64 zX.kind)) := below6 (b := ab) Dc hab (.slice za zX.ls.length zc) (.bool zX.ov) (.int .i64 zX.n) (.int .i64 zX.t) (.bool zX.has) (.int .i64 zX.kind)
                  refine hK.out _ _ ?_ (fun _ => ?_)
                  · exact De
                  clear hK K
                  clear c0 c1 c2 c3 c4 c5 f0 f1 f2 f3 f4 f5
                  refine take_at 13 (some 16) (.int .i64 EG) rfl rfl (by kernel_rfl) (by kernel_rfl) (by kernel_rfl) (fun _ _ _ h => h) (by rfl) (fun W hSw => by go_simp) De ?_
                  simp only [Act.put, List.setIfInBounds_toArray, List.set_cons_zero, List.set_cons_succ]
                  refine wpAnyH_done (by kernel_rfl) ?_ _
                  refine NoPanic.normal ?_
                  have Be := Below.chain B9 De
                  have hne := hn9.later De
                  have hxe := hx9.later De
                  have hpe := hp9.later De
                  generalize ((((((wc.setCell ⟨ab, 0, none⟩ (.slice za zX.ls.length zc)).setCell ⟨ab, 1, none⟩ (.bool zX.ov)).setCell ⟨ab, 2, none⟩ (.int .i64 zX.n)).setCell ⟨ab, 3, none⟩ (.int .i64 zX.t)).setCell ⟨ab, 4, none⟩ (.bool zX.has)).setCell ⟨ab, 5, none⟩ (.int .i64 zX.kind)) = we at *
                  clear hn9 hx9 hp9
                  rw [x6.out] at hpe hxe
                  rw [x1.out] at hpe
                  obtain ⟨_, hpe'⟩ := hpe
                  obtain ⟨lb, lo, hlo, hpc⟩ := hpe' (by decide)
                  subst hlo
                  have u1 : we.cell? ⟨lb, lo + 2 + 1, none⟩ = some (tx v) := (hpc 1 (by decide)).2
                  obtain ⟨a0, a1, a2, a3, a4, a5, _⟩ := hxe
                  rw [x2.out] at a1
                  rw [x3.out] at a2
                  rw [x4.out] at a4
                  rw [x5.out] at a3
                  obtain ⟨d0, d1, _⟩ := hne
                  clear hpc hpe'
                  have hvv : (v == v) = true := by simp
                  have hat2 : ((AT : Int) == AT) = true := by simp
                  clear hnb hk his hrv hqu hpr hdg hlg hls hlb
                  rw [x6.out]
                  go_wp2
                  go_ret
                  exact ⟨rfl, Be⟩
                · go_simp
                  have Dc := bal Da (.cells #[.slice none 0 0, .bool false, .int .i64 0, .int .i64 0, .bool false, .int .i64 0] 34)
                  have hzc : BoxX (wa.alloc (.cells #[.slice none 0 0, .bool false, .int .i64 0, .int .i64 0, .bool false, .int .i64 0] 34)) wa.heap.size (.slice none 0 0) scr0 := BoxX.new wa _ scr0
                  have hab : w9.heap.size ≤ wa.heap.size := Da.size
                  generalize wa.alloc (.cells #[.slice none 0 0, .bool false, .int .i64 0, .int .i64 0, .bool false, .int .i64 0] 34) = wc at *
                  generalize hAB : wa.heap.size = ab at hab hzc ⊢
                  clear hAB
                  refine hK.out _ _ ?_ (fun _ => ?_)
                  · exact Dc
                  clear hK K
                  refine wpAnyH_ready (rs := [7]) (by kernel_rfl) (by simp) ?_
                  refine AllReadyH.cons rfl (fun K hK => ?_) AllReadyH.nil
                  go_simp
                  refine (hlg _ (he.later (Below.chain B9 Dc))).mono ?_
                  rintro e wb ⟨vb, rfl, hob, hbb⟩
                  obtain ⟨za, zc, rfl, _⟩ := hob.fitN
                  have Db := Below.chain Dc hbb
                  have hzc := hzc.later hbb
                  refine hK.out _ _ ?_ (fun _ => ?_)
                  · exact Db
                  clear hK K
                  refine take_at 8 (some 65) (.tuple #[.agg #[.slice za zX.ls.length zc, .bool zX.ov, .int .i64 zX.n, .int .i64 zX.t, .bool zX.has, .int .i64 zX.kind], .int .i64 EG]) rfl rfl (by kernel_rfl) (by kernel_rfl) (by kernel_rfl) (fun _ _ _ h => h) (by rfl) (fun W hSw => by go_simp) Db ?_
                  simp only [Act.put, List.setIfInBounds_toArray, List.set_cons_zero, List.set_cons_succ]
                  refine take_at 9 (some 74) (.agg #[.slice za zX.ls.length zc, .bool zX.ov, .int .i64 zX.n, .int .i64 zX.t, .bool zX.has, .int .i64 zX.kind]) rfl rfl (by kernel_rfl) (by kernel_rfl) (by kernel_rfl) (fun _ _ _ h => h) (by rfl) (fun W hSw => by go_simp) Db ?_
                  simp only [Act.put, List.setIfInBounds_toArray, List.set_cons_zero, List.set_cons_succ]
                  refine take_at 10 (some 75) (.int .i64 EG) rfl rfl (by kernel_rfl) (by kernel_rfl) (by kernel_rfl) (fun _ _ _ h => h) (by rfl) (fun W hSw => by go_simp) Db ?_
                  simp only [Act.put, List.setIfInBounds_toArray, List.set_cons_zero, List.set_cons_succ]
                  refine wpAnyH_ready (rs := [12]) (by kernel_rfl) (by simp) ?_
                  refine AllReadyH.cons rfl (fun K hK => ?_) AllReadyH.nil
                  obtain ⟨c0, c1, c2, c3, c4, c5, f0, f1, f2, f3, f4, f5⟩ := hzc
                  go_simp
                  have De : Below w9.heap.size w9 ((((((wb.setCell ⟨ab, 0, none⟩ (.slice za zX.ls.length zc)).setCell ⟨ab, 1, none⟩ (.bool zX.ov)).setCell ⟨ab, 2, none⟩ (.int .i64 zX.n)).setCell ⟨ab, 3, none⟩ (.int .i64 zX.t)).setCell ⟨ab, 4, none⟩ (.bool zX.has)).setCell ⟨ab, 5, none⟩ (.int .i64 zX.kind)) := below6 (b := ab) Db hab (.slice za zX.ls.length zc) (.bool zX.ov) (.int .i64 zX.n) (.int .i64 zX.t) (.bool zX.has) (.int .i64 zX.kind)
                  refine hK.out _ _ ?_ (fun _ => ?_)
                  · exact De
                  clear hK K
                  clear c0 c1 c2 c3 c4 c5 f0 f1 f2 f3 f4 f5
                  refine take_at 13 (some 16) (.int .i64 EG) rfl rfl (by kernel_rfl) (by kernel_rfl) (by kernel_rfl) (fun _ _ _ h => h) (by rfl) (fun W hSw => by go_simp) De ?_
                  simp only [Act.put, List.setIfInBounds_toArray, List.set_cons_zero, List.set_cons_succ]
                  refine wpAnyH_done (by kernel_rfl) ?_ _
                  refine NoPanic.normal ?_
                  have Be := Below.chain B9 De
                  have hne := hn9.later De
                  have hxe := hx9.later De
                  have hpe := hp9.later De
                  generalize ((((((wb.setCell ⟨ab, 0, none⟩ (.slice za zX.ls.length zc)).setCell ⟨ab, 1, none⟩ (.bool zX.ov)).setCell ⟨ab, 2, none⟩ (.int .i64 zX.n)).setCell ⟨ab, 3, none⟩ (.int .i64 zX.t)).setCell ⟨ab, 4, none⟩ (.bool zX.has)).setCell ⟨ab, 5, none⟩ (.int .i64 zX.kind)) = we at *
                  clear hn9 hx9 hp9
                  rw [x6.out] at hpe hxe
                  rw [x1.out] at hpe
                  obtain ⟨_, hpe'⟩ := hpe
                  obtain ⟨lb, lo, hlo, hpc⟩ := hpe' (by decide)
                  subst hlo
                  have u1 : we.cell? ⟨lb, lo + 2 + 1, none⟩ = some (tx v) := (hpc 1 (by decide)).2
                  obtain ⟨a0, a1, a2, a3, a4, a5, _⟩ := hxe
                  rw [x2.out] at a1
                  rw [x3.out] at a2
                  rw [x4.out] at a4
                  rw [x5.out] at a3
                  obtain ⟨d0, d1, _⟩ := hne
                  clear hpc hpe'
                  have hvv : (v == v) = true := by simp
                  have hat2 : ((AT : Int) == AT) = true := by simp
                  clear hnb hk his hrv hqu hpr hdg hlg hls hlb
                  rw [x6.out]
                  go_wp2
                  go_ret
                  exact ⟨rfl, Be⟩
              · go_simp
                have Dc := bal D0 (.cells #[.slice none 0 0, .bool false, .int .i64 0, .int .i64 0, .bool false, .int .i64 0] 34)
                have hzc : BoxX (wd.alloc (.cells #[.slice none 0 0, .bool false, .int .i64 0, .int .i64 0, .bool false, .int .i64 0] 34)) wd.heap.size (.slice none 0 0) scr0 := BoxX.new wd _ scr0
                have hab : w9.heap.size ≤ wd.heap.size := D0.size
                generalize wd.alloc (.cells #[.slice none 0 0, .bool false, .int .i64 0, .int .i64 0, .bool false, .int .i64 0] 34) = wc at *
                generalize hAB : wd.heap.size = ab at hab hzc ⊢
                clear hAB
                refine hK.out _ _ ?_ (fun _ => ?_)
                · exact Dc
                clear hK K
                refine wpAnyH_ready (rs := [5]) (by kernel_rfl) (by simp) ?_
                refine AllReadyH.cons rfl (fun K hK => ?_) AllReadyH.nil
                go_simp
                refine (hpr _ (he.later (Below.chain B9 Dc))).mono ?_
                rintro e wa ⟨rfl, hba⟩
                have Da := Below.chain Dc hba
                have hzc := hzc.later hba
                refine hK.out _ _ ?_ (fun _ => ?_)
                · exact Da
                clear hK K
                refine take_at 6 (some 72) (tx GT) rfl rfl (by kernel_rfl) (by kernel_rfl) (by kernel_rfl) (fun _ _ _ h => h) (by rfl) (fun W hSw => by exact exec_add rfl t3 pn rfl rfl (by omega) GT HGB.out W) Da ?_
                simp only [Act.put, List.setIfInBounds_toArray, List.set_cons_zero, List.set_cons_succ]
                refine wpAnyH_ready (rs := [7]) (by kernel_rfl) (by simp) ?_
                refine AllReadyH.cons rfl (fun K hK => ?_) AllReadyH.nil
                go_simp
                refine (hlg _ (he.later (Below.chain B9 Da))).mono ?_
                rintro e wb ⟨vb, rfl, hob, hbb⟩
                obtain ⟨za, zc, rfl, _⟩ := hob.fitN
                have Db := Below.chain Da hbb
                have hzc := hzc.later hbb
                refine hK.out _ _ ?_ (fun _ => ?_)
                · exact Db
                clear hK K
                refine take_at 8 (some 65) (.tuple #[.agg #[.slice za zX.ls.length zc, .bool zX.ov, .int .i64 zX.n, .int .i64 zX.t, .bool zX.has, .int .i64 zX.kind], .int .i64 EG]) rfl rfl (by kernel_rfl) (by kernel_rfl) (by kernel_rfl) (fun _ _ _ h => h) (by rfl) (fun W hSw => by go_simp) Db ?_
                simp only [Act.put, List.setIfInBounds_toArray, List.set_cons_zero, List.set_cons_succ]
                refine take_at 9 (some 74) (.agg #[.slice za zX.ls.length zc, .bool zX.ov, .int .i64 zX.n, .int .i64 zX.t, .bool zX.has, .int .i64 zX.kind]) rfl rfl (by kernel_rfl) (by kernel_rfl) (by kernel_rfl) (fun _ _ _ h => h) (by rfl) (fun W hSw => by go_simp) Db ?_
                simp only [Act.put, List.setIfInBounds_toArray, List.set_cons_zero, List.set_cons_succ]
                refine take_at 10 (some 75) (.int .i64 EG) rfl rfl (by kernel_rfl) (by kernel_rfl) (by kernel_rfl) (fun _ _ _ h => h) (by rfl) (fun W hSw => by go_simp) Db ?_
                simp only [Act.put, List.setIfInBounds_toArray, List.set_cons_zero, List.set_cons_succ]
                refine wpAnyH_ready (rs := [12]) (by kernel_rfl) (by simp) ?_
                refine AllReadyH.cons rfl (fun K hK => ?_) AllReadyH.nil
                obtain ⟨c0, c1, c2, c3, c4, c5, f0, f1, f2, f3, f4, f5⟩ := hzc
                go_simp
                have De : Below w9.heap.size w9 ((((((wb.setCell ⟨ab, 0, none⟩ (.slice za zX.ls.length zc)).setCell ⟨ab, 1, none⟩ (.bool zX.ov)).setCell ⟨ab, 2, none⟩ (.int .i64 zX.n)).setCell ⟨ab, 3, none⟩ (.int .i64 zX.t)).setCell ⟨ab, 4, none⟩ (.bool zX.has)).setCell ⟨ab, 5, none⟩ (.int .i64 zX.kind)) := below6 (b := ab) Db hab (.slice za zX.ls.length zc) (.bool zX.ov) (.int .i64 zX.n) (.int .i64 zX.t) (.bool zX.has) (.int .i64 zX.kind)
                refine hK.out _ _ ?_ (fun _ => ?_)
                · exact De
                clear hK K
                clear c0 c1 c2 c3 c4 c5 f0 f1 f2 f3 f4 f5
                refine take_at 13 (some 16) (.int .i64 EG) rfl rfl (by kernel_rfl) (by kernel_rfl) (by kernel_rfl) (fun _ _ _ h => h) (by rfl) (fun W hSw => by go_simp) De ?_
                simp only [Act.put, List.setIfInBounds_toArray, List.set_cons_zero, List.set_cons_succ]
                refine wpAnyH_done (by kernel_rfl) ?_ _
                refine NoPanic.normal ?_
                have Be := Below.chain B9 De
                have hne := hn9.later De
                have hxe := hx9.later De
                have hpe := hp9.later De
                generalize ((((((wb.setCell ⟨ab, 0, none⟩ (.slice za zX.ls.length zc)).setCell ⟨ab, 1, none⟩ (.bool zX.ov)).setCell ⟨ab, 2, none⟩ (.int .i64 zX.n)).setCell ⟨ab, 3, none⟩ (.int .i64 zX.t)).setCell ⟨ab, 4, none⟩ (.bool zX.has)).setCell ⟨ab, 5, none⟩ (.int .i64 zX.kind)) = we at *
                clear hn9 hx9 hp9
                rw [x6.out] at hpe hxe
                rw [x1.out] at hpe
                obtain ⟨_, hpe'⟩ := hpe
                obtain ⟨lb, lo, hlo, hpc⟩ := hpe' (by decide)
                subst hlo
                have u1 : we.cell? ⟨lb, lo + 2 + 1, none⟩ = some (tx v) := (hpc 1 (by decide)).2
                obtain ⟨a0, a1, a2, a3, a4, a5, _⟩ := hxe
                rw [x2.out] at a1
                rw [x3.out] at a2
                rw [x4.out] at a4
                rw [x5.out] at a3
                obtain ⟨d0, d1, _⟩ := hne
                clear hpc hpe'
                have hvv : (v == v) = true := by simp
                have hat2 : ((AT : Int) == AT) = true := by simp
                clear hnb hk his hrv hqu hpr hdg hlg hls hlb
                rw [x6.out]
                go_wp2
                go_ret
                exact ⟨rfl, Be⟩
            · go_simp
              have Dc := bal D0 (.cells #[.slice none 0 0, .bool false, .int .i64 0, .int .i64 0, .bool false, .int .i64 0] 34)
              have hzc : BoxX (wd.alloc (.cells #[.slice none 0 0, .bool false, .int .i64 0, .int .i64 0, .bool false, .int .i64 0] 34)) wd.heap.size (.slice none 0 0) scr0 := BoxX.new wd _ scr0
              have hab : w9.heap.size ≤ wd.heap.size := D0.size
              generalize wd.alloc (.cells #[.slice none 0 0, .bool false, .int .i64 0, .int .i64 0, .bool false, .int .i64 0] 34) = wc at *
              generalize hAB : wd.heap.size = ab at hab hzc ⊢
              clear hAB
              refine hK.out _ _ ?_ (fun _ => ?_)
              · exact Dc
              clear hK K
              refine wpAnyH_ready (rs := [1]) (by kernel_rfl) (by simp) ?_
              refine AllReadyH.cons rfl (fun K hK => ?_) AllReadyH.nil
              go_simp
              refine (hqu _).mono ?_
              rintro e wq ⟨rfl, rfl⟩
              refine hK.out _ _ ?_ (fun _ => ?_)
              · exact Dc
              clear hK K
              refine take_at 2 (some 68) (tx t1) rfl rfl (by kernel_rfl) (by kernel_rfl) (by kernel_rfl) (fun _ _ _ h => h) (by rfl) (fun W hSw => by exact exec_add rfl [117, 112, 123, 97, 61] q rfl rfl (by simp; omega) t1 H1.out W) Dc ?_
              simp only [Act.put, List.setIfInBounds_toArray, List.set_cons_zero, List.set_cons_succ]
              refine take_at 3 (some 69) (tx t3) rfl rfl (by kernel_rfl) (by kernel_rfl) (by kernel_rfl) (fun _ _ _ h => h) (by rfl) (fun W hSw => by exact exec_add rfl t1 [125, 32, 32] rfl rfl (by simp; omega) t3 H3.out W) Dc ?_
              simp only [Act.put, List.setIfInBounds_toArray, List.set_cons_zero, List.set_cons_succ]
              refine wpAnyH_ready (rs := [5]) (by kernel_rfl) (by simp) ?_
              refine AllReadyH.cons rfl (fun K hK => ?_) AllReadyH.nil
              go_simp
              refine (hpr _ (he.later (Below.chain B9 Dc))).mono ?_
              rintro e wa ⟨rfl, hba⟩
              have Da := Below.chain Dc hba
              have hzc := hzc.later hba
              refine hK.out _ _ ?_ (fun _ => ?_)
              · exact Da
              clear hK K
              refine take_at 6 (some 72) (tx GT) rfl rfl (by kernel_rfl) (by kernel_rfl) (by kernel_rfl) (fun _ _ _ h => h) (by rfl) (fun W hSw => by exact exec_add rfl t3 pn rfl rfl (by omega) GT HGB.out W) Da ?_
              simp only [Act.put, List.setIfInBounds_toArray, List.set_cons_zero, List.set_cons_succ]
              refine wpAnyH_ready (rs := [7]) (by kernel_rfl) (by simp) ?_
              refine AllReadyH.cons rfl (fun K hK => ?_) AllReadyH.nil
              go_simp
              refine (hlg _ (he.later (Below.chain B9 Da))).mono ?_
              rintro e wb ⟨vb, rfl, hob, hbb⟩
              obtain ⟨za, zc, rfl, _⟩ := hob.fitN
              have Db := Below.chain Da hbb
              have hzc := hzc.later hbb
              refine hK.out _ _ ?_ (fun _ => ?_)
              · exact Db
              clear hK K
              refine take_at 8 (some 65) (.tuple #[.agg #[.slice za zX.ls.length zc, .bool zX.ov, .int .i64 zX.n, .int .i64 zX.t, .bool zX.has, .int .i64 zX.kind], .int .i64 EG]) rfl rfl (by kernel_rfl) (by kernel_rfl) (by kernel_rfl) (fun _ _ _ h => h) (by rfl) (fun W hSw => by go_simp) Db ?_
              simp only [Act.put, List.setIfInBounds_toArray, List.set_cons_zero, List.set_cons_succ]
              refine take_at 9 (some 74) (.agg #[.slice za zX.ls.length zc, .bool zX.ov, .int .i64 zX.n, .int .i64 zX.t, .bool zX.has, .int .i64 zX.kind]) rfl rfl (by kernel_rfl) (by kernel_rfl) (by kernel_rfl) (fun _ _ _ h => h) (by rfl) (fun W hSw => by go_simp) Db ?_
              simp only [Act.put, List.setIfInBounds_toArray, List.set_cons_zero, List.set_cons_succ]
              refine take_at 10 (some 75) (.int .i64 EG) rfl rfl (by kernel_rfl) (by kernel_rfl) (by kernel_rfl) (fun _ _ _ h => h) (by rfl) (fun W hSw => by go_simp) Db ?_
              simp only [Act.put, List.setIfInBounds_toArray, List.set_cons_zero, List.set_cons_succ]
              refine wpAnyH_ready (rs := [12]) (by kernel_rfl) (by simp) ?_
              refine AllReadyH.cons rfl (fun K hK => ?_) AllReadyH.nil
              obtain ⟨c0, c1, c2, c3, c4, c5, f0, f1, f2, f3, f4, f5⟩ := hzc
              go_simp
              have De : Below w9.heap.size w9 ((((((wb.setCell ⟨ab, 0, none⟩ (.slice za zX.ls.length zc)).setCell ⟨ab, 1, none⟩ (.bool zX.ov)).setCell ⟨ab, 2, none⟩ (.int .i64 zX.n)).setCell ⟨ab, 3, none⟩ (.int .i64 zX.t)).setCell ⟨ab, 4, none⟩ (.bool zX.has)).setCell ⟨ab, 5, none⟩ (.int .i64 zX.kind)) := below6 (b := ab) Db hab (.slice za zX.ls.length zc) (.bool zX.ov) (.int .i64 zX.n) (.int .i64 zX.t) (.bool zX.has) (.int .i64 zX.kind)
              refine hK.out _ _ ?_ (fun _ => ?_)
              · exact De
              clear hK K
              clear c0 c1 c2 c3 c4 c5 f0 f1 f2 f3 f4 f5
              refine take_at 13 (some 16) (.int .i64 EG) rfl rfl (by kernel_rfl) (by kernel_rfl) (by kernel_rfl) (fun _ _ _ h => h) (by rfl) (fun W hSw => by go_simp) De ?_
              simp only [Act.put, List.setIfInBounds_toArray, List.set_cons_zero, List.set_cons_succ]
              refine wpAnyH_done (by kernel_rfl) ?_ _
              refine NoPanic.normal ?_
              have Be := Below.chain B9 De
              have hne := hn9.later De
              have hxe := hx9.later De
              have hpe := hp9.later De
              generalize ((((((wb.setCell ⟨ab, 0, none⟩ (.slice za zX.ls.length zc)).setCell ⟨ab, 1, none⟩ (.bool zX.ov)).setCell ⟨ab, 2, none⟩ (.int .i64 zX.n)).setCell ⟨ab, 3, none⟩ (.int .i64 zX.t)).setCell ⟨ab, 4, none⟩ (.bool zX.has)).setCell ⟨ab, 5, none⟩ (.int .i64 zX.kind)) = we at *
              clear hn9 hx9 hp9
              rw [x6.out] at hpe hxe
              rw [x1.out] at hpe
              obtain ⟨_, hpe'⟩ := hpe
              obtain ⟨lb, lo, hlo, hpc⟩ := hpe' (by decide)
              subst hlo
              have u1 : we.cell? ⟨lb, lo + 2 + 1, none⟩ = some (tx v) := (hpc 1 (by decide)).2
              obtain ⟨a0, a1, a2, a3, a4, a5, _⟩ := hxe
              rw [x2.out] at a1
              rw [x3.out] at a2
              rw [x4.out] at a4
              rw [x5.out] at a3
              obtain ⟨d0, d1, _⟩ := hne
              clear hpc hpe'
              have hvv : (v == v) = true := by simp
              have hat2 : ((AT : Int) == AT) = true := by simp
              clear hnb hk his hrv hqu hpr hdg hlg hls hlb
              rw [x6.out]
              go_wp2
              go_ret
              exact ⟨rfl, Be⟩
end Go.Proofs.YtcbjhfnlhpallaaGreatDoor
