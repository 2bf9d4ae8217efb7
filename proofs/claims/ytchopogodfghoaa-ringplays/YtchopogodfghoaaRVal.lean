/- The document's own Norm, Values, Whole. -/
import Derived.Test.YtchopogodfghoaaRNum
import Derived.Test.YtchopogodfghoaaRefIs
import Derived.Test.YtchopogodfghoaaRefMul
namespace Go.Proofs.Ytchopogodfghoaa
open Go.RowKit

set_option maxHeartbeats 1000000 in
theorem rnorm_any (o : Bool) (n : Int) (w : World) (h : R64 n) : Calls Try.prog 28 #[.agg #[.bool o, .int .i64 n]] w fun e w' => e = .returned (.agg #[.bool (ov (cnt o n)), .int .i64 (nn (cnt o n))]) ∧ Below w.heap.size w w' := by
  obtain ⟨hx1, hy, hb2⟩ := boxes1 w o n
  cases hi : fIs o n with
  | true =>
    obtain ⟨e1, e2⟩ := is_cnt hi
    rw [e1, e2]
    go_enter Try.func28, Try.ntmps28
    go_wp2_with fail
    refine (ris_all _ _ _ h.1).mono ?_
    rintro e w1 ⟨rfl, hb3⟩
    rw [hi]
    obtain ⟨c0, c1, f0, f1⟩ := hx1.later hb3
    obtain ⟨d0, d1, g0, g1⟩ := hy.later hb3
    obtain ⟨p0, p1, _, _⟩ := (hy.later hb3).put (p := o) (m := n)
    go_wp2
    exact bodyPost_ret (v := .agg #[.bool o, .int .i64 n]) (by simp [results, Try.results28, go_sem, p0, p1]) rfl ⟨rfl, put2 (Below.chain hb2 hb3) (by omega) _ _⟩
  | false =>
    rw [isnt_cnt h.1 hi]
    go_enter Try.func28, Try.ntmps28
    go_wp2_with fail
    refine (ris_all _ _ _ h.1).mono ?_
    rintro e w1 ⟨rfl, hb3⟩
    rw [hi]
    go_wp2_with fail
    refine (ovf_any _).mono ?_
    rintro e w2 ⟨rfl, hb4⟩
    have hb5 := Below.chain hb3 hb4
    obtain ⟨d0, d1, g0, g1⟩ := hy.later hb5
    obtain ⟨p0, p1, _, _⟩ := (hy.later hb5).put (p := true) (m := 0)
    go_wp2
    exact bodyPost_ret (v := .agg #[.bool true, .int .i64 0]) (by simp [results, Try.results28, go_sem, p0, p1]) rfl ⟨rfl, put2 (Below.chain hb2 hb5) (by omega) _ _⟩

/-- A sample's value as it counts. -/
def nv (s : Smp) : Bool × Int := (ov (cnt s.2.1 s.2.2), nn (cnt s.2.1 s.2.2))
theorem nv_take {l : List Smp} {j : Nat} (h : j < l.length) : (l.take (j + 1)).map nv = (l.take j).map nv ++ [nv (l.getD j s0)] := by
  rw [take_snocS h]
  simp
theorem nv_cnts (l : List Smp) (h : ∀ s ∈ l, R64 s.2.2) : cnts (l.map nv) = cnts (vls l) := by
  induction l with
  | nil => rfl
  | cons s r ih =>
    have h1 := h s List.mem_cons_self
    show cnt (nv s).1 (nv s).2 :: cnts (r.map nv) = cnt s.2.1 s.2.2 :: cnts (vls r)
    rw [ih (fun x hx => h x (List.mem_cons_of_mem _ hx))]
    congr 1
    exact cnt_val (V.cnt h1.1 h1.2)
theorem nv_r64 (s : Smp) (h : R64 s.2.2) : R64 (nv s).2 := nrm_r64 s h
theorem getD_memS {l : List Smp} {j : Nat} (h : j < l.length) : l.getD j s0 ∈ l := by
  rw [List.getD_eq_getElem?_getD, List.getElem?_eq_getElem h]
  exact List.getElem_mem h
set_option maxHeartbeats 2000000 in
theorem values_any (ao : Option Addr) (n cap : Nat) (l : List Smp) (w : World) (hn : n ≤ 1000) (hs : Ms w ao n l) (hl : ∀ s ∈ l, R64 s.2.2) :
    Calls Try.prog 30 #[.slice ao n cap] w fun e w' => ∃ v, e = .returned v ∧ OwnN w' w.heap.size v (l.map nv) ∧ Below w.heap.size w w' := by
  obtain ⟨i0, hi, hz0, hz1, hz2⟩ := infoN_parts
  obtain ⟨hla, hca⟩ := hs
  have HA : Hid (l.length = n) := hla
  have HC : Hid (∀ j, j < n → ∃ b off, ao = some ⟨b, off, none⟩ ∧ ∀ W, Below w.heap.size w W → W.cell? ⟨b, off + j * 3 + 1, none⟩ = some (.bool (l.getD j s0).2.1) ∧ W.cell? ⟨b, off + j * 3 + 2, none⟩ = some (.int .i64 (l.getD j s0).2.2)) := by
    intro j hj
    obtain ⟨b, off, e, hc⟩ := hca (by omega)
    obtain ⟨c0, c1, c2⟩ := hc j hj
    exact ⟨b, off, e, fun W hW => ⟨(hW.cell (World.block_lt_of_cell? _ _ c1)).trans c1, (hW.cell (World.block_lt_of_cell? _ _ c2)).trans c2⟩⟩
  clear hla hca
  go_enter Try.func30, Try.ntmps30
  go_wp2
  go_loopw [4, 3] (fun i v wr => ∃ j : Nat, j ≤ n ∧ i = .int .i64 j ∧ OwnN wr w.heap.size v ((l.take j).map nv) ∧ Below w.heap.size w wr) (fun i _ _ => n - (intOf i).toNat)
  case atStart => exact ⟨0, by omega, rfl, ⟨rfl, Or.inl ⟨rfl, rfl⟩⟩, Below.refl _ _⟩
  case round =>
    obtain ⟨j, hj, rfl, ho, hb⟩ := hrel
    by_cases hlt : j < n
    · have hd : decide ((j : Int) < (n : Int)) = true := decide_eq_true (by omega)
      obtain ⟨b, off, rfl, hc⟩ := HC.out j hlt
      obtain ⟨k1, k2⟩ := hc _ hb
      have HN : Hid ((l.take (j + 1)).map nv = (l.take j).map nv ++ [nv (l.getD j s0)]) := nv_take (by rw [HA.out]; exact hlt)
      have hr := hl _ (getD_memS (l := l) (j := j) (by rw [HA.out]; exact hlt))
      have hlj : ((l.take j).map nv).length = j := by rw [List.length_map, List.length_take, HA.out]; omega
      clear hc
      generalize l.getD j s0 = s at *
      generalize (l.take j).map nv = r at *
      obtain ⟨t, s1, s2⟩ := s
      dsimp only [nv] at *
      have hno := fun W => rnorm_any s1 s2 W hr
      generalize ov (cnt s1 s2) = fo at *
      generalize nn (cnt s1 s2) = fn at *
      go_wp2_with fail
      refine (hno _).mono ?_
      rintro e w1 ⟨rfl, hb1⟩
      have ho1 := (ho.later hb1).later (bal (Below.refl _ _) (.cells #[.bool fo, .int .i64 fn] 31))
      have hx1 := Box.new w1 fo fn
      have hb2 := bal (Below.chain hb hb1) (.cells #[.bool fo, .int .i64 fn] 31)
      go_wp2_with (at_builtin; go_must (refine wpList_append_own _ rfl _ _ 42 rfl w.heap.size 31 i0 (.agg #[.bool false, .int .i64 0]) 2 16 Try.underlying42 hi hz0 hz1 hz2 zeroN (by decide) _ _ _ rfl ho1 ⟨w1.heap.size, 0, none⟩ 1 1 (cellsN [(fo, fn)]) rfl rfl ?hnews (cellsN_one _) ?h63 ?hby ?hbs ?_))
      case hnews => exact fun i u hu => Box.cellsN (x := (fo, fn)) hx1 i u hu
      case h63 => unfold maxLen; omega
      case hby => omega
      case hbs => exact hb2.size
      intro v' w2 ho4 hg4 _
      go_wp2
      go_roundw
      case rel => exact ⟨j + 1, by omega, by go_num, by rw [HN.out]; exact OwnN.snoc (by rw [hlj]; exact ho4), hb2.grown hg4 hb2.size (fun k hk => (World.ownsRow.lt ho1 k hk).1)⟩
      case measure => simp [intOf]; omega
    · have hd : decide ((j : Int) < (n : Int)) = false := decide_eq_false (by omega)
      have HE : Hid ((l.take j).map nv = l.map nv) := by show _ = _; rw [List.take_of_length_le (by rw [HA.out]; omega)]
      rw [HE.out] at ho
      go_wp2
      go_ret
      exact ⟨_, rfl, ho, hb⟩
theorem whole_any (n : Int) (w : World) (hn : R64 n) : Calls Try.prog 44 #[.int .i64 n] w fun e w' => e = .returned (.agg #[.bool (ov (fOf n)), .int .i64 (nn (fOf n))]) ∧ Below w.heap.size w w' := by
  have hb0 := bal (Below.refl _ w) (.cells #[.bool false, .int .i64 0] 31)
  have hx0 := Box.new w false 0
  have ho := fun W => rof_any n W hn
  generalize ov (fOf n) = fo at *
  generalize nn (fOf n) = fn at *
  go_enter Try.func44, Try.ntmps44
  go_wp2_with fail
  refine (ho _).mono ?_
  rintro e w1 ⟨rfl, hb1⟩
  have hx1 := hx0.later hb1
  obtain ⟨c0, c1, g0, g1⟩ := id hx1
  obtain ⟨p0, p1, _, _⟩ := hx1.put (p := fo) (m := fn)
  go_wp2
  exact bodyPost_ret (v := .agg #[.bool fo, .int .i64 fn]) (by simp [results, Try.results44, go_sem, p0, p1]) rfl ⟨rfl, put2 (Below.chain hb0 hb1) (Nat.le_refl _) _ _⟩
end Go.Proofs.Ytchopogodfghoaa
