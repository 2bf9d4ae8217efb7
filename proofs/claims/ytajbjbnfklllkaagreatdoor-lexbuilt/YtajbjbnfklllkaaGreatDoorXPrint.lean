/- quoted, printed, Print: each for every argument. -/
import Derived.Test.YtajbjbnfklllkaaGreatDoorXScan
namespace Go.Proofs.YtajbjbnfklllkaaGreatDoor
open Go.RowKit

theorem quoted2_any (s : Str) (w : World) (hs : s.length ≤ 1000) (hm : Mx w) : Calls Tryz.prog 38 #[tx s] w fun e w' => e = .returned (tx ([34] ++ esc s ++ [34])) ∧ Below w.heap.size w w' := by
  have h1 := replace_any s 92 [92, 92] w (by omega) rfl (by simp) hm
  have hl1 := esc_one_len s
  have h2 := fun W (hW : Mx W) => replace_any (s.flatMap fun x => if x = 92 then [92, 92] else [x]) 34 [92, 34] W (by omega) rfl (by simp) hW
  rw [esc_two] at h2
  have hl2 := esc_len s
  generalize (s.flatMap fun x => if x = 92 then [92, 92] else [x]) = r at *
  generalize esc s = q at *
  have a1 : (⟨#[34]⟩ : ByteArray) ++ ⟨q.toArray⟩ = ⟨([34] ++ q).toArray⟩ := ba_append [34] q
  have a2 : (⟨([34] ++ q).toArray⟩ : ByteArray) ++ ⟨#[34]⟩ = ⟨([34] ++ q ++ [34]).toArray⟩ := ba_append _ [34]
  have hlq : ([34] ++ q).length ≤ 3000 := by simp; omega
  obtain ⟨u, hu⟩ : ∃ u, u = [34] ++ q := ⟨_, rfl⟩
  rw [← hu] at a1 a2 hlq ⊢
  obtain ⟨v, hv⟩ : ∃ v, v = u ++ [34] := ⟨_, rfl⟩
  rw [← hv] at a2 ⊢
  clear hu hv
  go_enter Tryz.func38, Tryz.ntmps38
  go_wp2_with fail
  refine h1.mono ?_
  rintro e w1 ⟨rfl, hb1⟩
  go_wp2_with fail
  refine (h2 _ (hm.later hb1)).mono ?_
  rintro e w2 ⟨rfl, hb2⟩
  go_wp2_with fail
  go_ret
  exact ⟨rfl, Below.chain hb1 hb2⟩
structure FineT (x : Tk) : Prop where
  t : x.t.length ≤ 1000
  n0 : -9223372036854775808 ≤ x.n
  n1 : x.n ≤ 9223372036854775807
  d0 : -9223372036854775808 ≤ x.d
  d1 : x.d ≤ 9223372036854775807
set_option maxHeartbeats 1000000 in
theorem printed_any (x : Tk) (w : World) (hf : FineT x) (he : Ev w) : Calls Tryz.prog 21 #[tv x] w fun e w' => e = .returned (tx (prT x)) ∧ Below w.heap.size w w' := by
  obtain ⟨ht, n0, n1, d0, d1⟩ := hf
  have hb0 : Below w.heap.size w (w.alloc (.cells (tcs x) 36)) := bal (Below.refl _ _) _
  have he0 := he.later hb0
  have hq := quoted2_any x.t (w.alloc (.cells (tcs x) 36)) ht he0.mx
  have hn := Fx.print_any x.o x.n (w.alloc (.cells (tcs x) 36)) ⟨n0, n1⟩ he0.tab
  have hd := printedDur_any x.d (w.alloc (.cells (tcs x) 36)) d0 d1 he0.tab
  have HP : Hid (prT x = if x.k = 1 ∨ x.k = 5 then x.t else if x.k = 2 then Fx.fPrint (Fx.cnt x.o x.n) else if x.k = 3 then Lib.itoa x.d ++ [116] else if x.k = 4 then [34] ++ esc x.t ++ [34] else []) := rfl
  obtain ⟨k, p, t, o, n, d⟩ := x
  simp only at *
  generalize Fx.fPrint (Fx.cnt o n) = N at *
  generalize Lib.itoa d ++ [116] = D at *
  generalize [34] ++ esc t ++ [34] = T at *
  generalize prT ⟨k, p, t, o, n, d⟩ = R at *
  by_cases h1 : k = 1
  · subst h1
    have HR : Hid (R = t) := HP.out
    clear HP hq hn hd
    go_enter Tryz.func21, Tryz.ntmps21
    go_wp2
    go_ret
    exact ⟨by rw [HR.out]; rfl, hb0⟩
  · by_cases h5 : k = 5
    · subst h5
      have HR : Hid (R = t) := HP.out
      clear HP hq hn hd h1
      go_enter Tryz.func21, Tryz.ntmps21
      go_wp2
      go_ret
      exact ⟨by rw [HR.out]; rfl, hb0⟩
    · have b1 : (k == 1) = false := beq_eq_false_iff_ne.2 h1
      have b5 : (k == 5) = false := beq_eq_false_iff_ne.2 h5
      by_cases h2 : k = 2
      · subst h2
        have HR : Hid (R = N) := HP.out
        clear HP hq hd h1 h5 b1 b5
        go_enter Tryz.func21, Tryz.ntmps21
        go_wp2_with fail
        refine hn.mono ?_
        rintro e w1 ⟨rfl, hb1⟩
        go_wp2
        go_ret
        exact ⟨by rw [HR.out]; rfl, Below.chain hb0 hb1⟩
      · have b2 : (k == 2) = false := beq_eq_false_iff_ne.2 h2
        by_cases h3 : k = 3
        · subst h3
          have HR : Hid (R = D) := HP.out
          clear HP hq hn h1 h5 h2 b1 b5 b2
          go_enter Tryz.func21, Tryz.ntmps21
          go_wp2_with fail
          refine hd.mono ?_
          rintro e w1 ⟨rfl, hb1⟩
          go_wp2
          go_ret
          exact ⟨by rw [HR.out]; rfl, Below.chain hb0 hb1⟩
        · have b3 : (k == 3) = false := beq_eq_false_iff_ne.2 h3
          by_cases h4 : k = 4
          · subst h4
            have HR : Hid (R = T) := HP.out
            clear HP hn hd h1 h5 h2 h3 b1 b5 b2 b3
            go_enter Tryz.func21, Tryz.ntmps21
            go_wp2_with fail
            refine hq.mono ?_
            rintro e w1 ⟨rfl, hb1⟩
            go_wp2
            go_ret
            exact ⟨by rw [HR.out]; rfl, Below.chain hb0 hb1⟩
          · have b4 : (k == 4) = false := beq_eq_false_iff_ne.2 h4
            have HR : Hid (R = []) := by
              show _ = _
              rw [HP.out, if_neg (by rintro (e | e); exact h1 e; exact h5 e), if_neg h2, if_neg h3, if_neg h4]
            clear HP hn hd hq h1 h5 h2 h3 h4
            go_enter Tryz.func21, Tryz.ntmps21
            go_wp2
            go_ret
            exact ⟨by rw [HR.out]; rfl, hb0⟩
/-- The texts of tokens that have one. -/
def txs (l : List Tk) : List Str := (l.map prT).filter fun t => !t.isEmpty
def prL (l : List Tk) : Str := Lib.join (txs l) [32]
theorem getT_at {l : List Tk} {j : Nat} (h : j < l.length) : l.getD j tk0 = l[j] := by simp [List.getD, List.getElem?_eq_getElem h]
theorem txs_skip {l : List Tk} {j : Nat} (h : j < l.length) (e : prT (l.getD j tk0) = []) : txs (l.take (j + 1)) = txs (l.take j) := by
  unfold txs
  rw [List.take_succ_eq_append_getElem h, List.map_append, List.filter_append]
  rw [getT_at h] at e
  simp [e]
theorem txs_add {l : List Tk} {j : Nat} (h : j < l.length) (e : prT (l.getD j tk0) ≠ []) : txs (l.take (j + 1)) = txs (l.take j) ++ [prT (l.getD j tk0)] := by
  unfold txs
  rw [List.take_succ_eq_append_getElem h, List.map_append, List.filter_append]
  rw [getT_at h] at *
  have : (prT l[j]).isEmpty = false := by
    cases hh : prT l[j] with
    | nil => exact absurd hh e
    | cons c r => rfl
  simp [this]
theorem txs_le (l : List Tk) (j : Nat) : (txs (l.take j)).length ≤ j := by
  unfold txs
  refine Nat.le_trans (List.length_filter_le _ _) ?_
  simp
  omega
set_option maxHeartbeats 4000000 in
theorem print_any (ao : Option Addr) (n cap : Nat) (l : List Tk) (w : World) (hn : n ≤ 100000) (hts : Ts w ao n l) (hf : ∀ x ∈ l, FineT x) (hj : (prL l).length ≤ 1000000) (he : Ev w) :
    Calls Tryz.prog 12 #[.slice ao n cap] w fun e w' => e = .returned (tx (prL l)) ∧ Below w.heap.size w w' := by
  obtain ⟨i0, hi, hz0, hz1, hz2⟩ := info_parts9
  have HLN : Hid (l.length = n) := hts.1
  have HF : Hid (∀ x ∈ l, FineT x) := hf
  have HJ : Hid ((prL l).length ≤ 1000000) := hj
  clear hf hj
  go_enter Tryz.func12, Tryz.ntmps12
  go_wp2_with fail
  go_loopw [10, 3] (fun i u wr => ∃ (j : Nat) (v : Value), j ≤ n ∧ i = .int .i64 j ∧ v = u ∧ OwnS wr w.heap.size v (txs (l.take j)) ∧ Below w.heap.size w wr) (fun i _ _ => n - (intOf i).toNat)
  case atStart => exact ⟨0, _, by omega, rfl, rfl, World.ownsRow_made w #[] 0 (Nat.le_refl _) (Nat.zero_le _) (by simp), bal (Below.refl _ _) _⟩
  case round =>
    obtain ⟨j, v, hjn, rfl, rfl, ho, hb⟩ := hrel
    by_cases hlt : j < n
    · have hjl : j < l.length := by rw [HLN.out]; exact hlt
      obtain ⟨b1, o1, rfl, _⟩ := hts.2 (by omega)
      obtain ⟨k0, k1, k2, k3, k4, k5⟩ := (hts.later hb).at j hlt
      have HS := txs_skip hjl
      have HA := txs_add hjl
      have hfx := HF.out (l.getD j tk0) (by rw [getT_at hjl]; exact List.getElem_mem hjl)
      have hle := txs_le l j
      generalize l.getD j tk0 = x at *
      have hpr := printed_any x (wr.alloc (.cells (tcs x) 36)) hfx ((he.later hb).later (bal (Below.refl _ _) _))
      have hb1 := bal hb (.cells (tcs x) 36)
      have ho1 := ho.later (bal (Below.refl _ _) (.cells (tcs x) 36))
      by_cases hpx : prT x = []
      · have HS' : Hid _ := HS hpx
        rw [hpx] at hpr
        clear HS HA hpx hfx
        go_wp2_with fail
        refine hpr.mono ?_
        rintro e w1 ⟨rfl, hb2⟩
        go_wp2
        go_roundw
        case rel => exact ⟨j + 1, _, by omega, by go_num, rfl, by rw [HS'.out]; exact ho1.later hb2, Below.chain hb1 hb2⟩
        case measure => simp [intOf]; omega
      · have HA' : Hid _ := HA hpx
        generalize prT x = t at *
        have ht1 : (t != []) = true := by rw [bne_iff_ne]; exact hpx
        have ht2 : (t == []) = false := by rw [beq_eq_false_iff_ne]; exact hpx
        have ht3 : t.isEmpty = false := by cases t with | nil => exact absurd rfl hpx | cons c q => rfl
        clear HS HA hpx hfx
        go_wp2_with fail
        refine hpr.mono ?_
        rintro e w1 ⟨rfl, hb2⟩
        have ho2 := (ho1.later hb2).later (bal (Below.refl _ _) (.cells #[tx t] 9))
        have hbo := bal (Below.chain hb1 hb2) (.cells #[tx t] 9)
        go_wp2_with (at_builtin; go_must (refine wpList_append_own _ rfl _ _ 50 rfl w.heap.size 9 i0 (tx []) 1 16 Tryz.underlying50 hi hz0 hz1 hz2 rfl (by decide) _ _ _ rfl ho2 ⟨w1.heap.size, 0, none⟩ 1 1 [tx t] rfl rfl (one_cell (World.cell?_alloc_new w1 _ _ 0)) (fun u hu => by cases hu with | head => rfl | tail _ h => cases h) ?h63 ?hby ?hbs ?_))
        case h63 => unfold maxLen; omega
        case hby => omega
        case hbs => exact hbo.size
        intro v' w2 ho4 hg4 _
        go_wp2
        go_roundw
        case rel => exact ⟨j + 1, _, by omega, by go_num, rfl, by rw [HA'.out]; exact OwnS.snoc ho4, hbo.grown hg4 hbo.size (fun k hk => (World.ownsRow.lt ho2 k hk).1)⟩
        case measure => simp [intOf]; omega
    · have e : l.take j = l := List.take_of_length_le (by rw [HLN.out]; omega)
      have hle := txs_le l j
      rw [e] at ho hle
      have hjn := join_any v w.heap.size (txs l) wr ho HJ.out (by omega)
      obtain ⟨R, HE⟩ : ∃ R, Hid (prL l = R) := ⟨_, rfl⟩
      have HR : Hid (Lib.join (txs l) [32] = R) := HE
      rw [HR.out] at hjn
      clear e HJ HF hle
      go_wp2_with fail
      refine hjn.mono ?_
      rintro e w1 ⟨rfl, hb1⟩
      go_wp2
      go_ret
      exact ⟨by rw [HE.out]; rfl, Below.chain hb hb1⟩
end Go.Proofs.YtajbjbnfklllkaaGreatDoor
