/- sampleLine, kindLine, ended: for whatever they are handed. -/
import Derived.Test.YtcbjhfnlhpallaaGreatDoorESmall
import Derived.Test.YtcbjhfnlhpallaaGreatDoorELineW
import Derived.Test.YtcbjhfnlhpallaaGreatDoorETake
import Derived.Test.YtcbjhfnlhpallaaGreatDoorELaws
import Derived.Lib.ItoaLen
namespace Go.Proofs.YtcbjhfnlhpallaaGreatDoor
open Go.RowKit

theorem print_short (l : List Pr) : (fPrint l).length ≤ 700 := by
  unfold fPrint
  split
  · rename_i h
    obtain ⟨h1, h2⟩ := others_is h
    have h3 := inner_le _ h2
    have h4 : (metric l).length ≤ 20 := by
      unfold metric
      split
      · rename_i hn; exact (name_len hn).2
      · simp
    split
    · omega
    · simp
      omega
  · simp
theorem sLine_long {x : Scr} (hn : Fx.R64 x.n) (h0 : -9223372036854775808 ≤ x.t) (h1 : x.t ≤ 9223372036854775807) : (sLine x).length ≤ 1800 := by
  have a1 := print_short x.ls
  have a2 := Fx.print_len (Fx.V.cnt (o := x.ov) hn.1 hn.2)
  have a3 := Lib.itoa_length_le x.t h0 h1
  have a4 : (if x.has = true then 32 :: Lib.itoa x.t else ([] : Str)).length ≤ 22 := by
    split
    · simp; omega
    · simp
  unfold sLine
  rw [List.length_append, List.length_append, List.length_append]
  simp only [List.length_singleton]
  omega
set_option maxRecDepth 20000 in
set_option maxHeartbeats 8000000 in
theorem sampleLine_any (la : Option Addr) (lc : Nat) (x : Scr) (w : World) (hn : x.ls.length ≤ 1000000) (hx64 : Fx.R64 x.n) (ht0 : -9223372036854775808 ≤ x.t) (ht1 : x.t ≤ 9223372036854775807) (hf : Fit x.ls) (hp : Ps w la x.ls.length x.ls) (he : Ev w) : Calls Tryz.prog 49 #[.agg #[.slice la x.ls.length lc, .bool x.ov, .int .i64 x.n, .int .i64 x.t, .bool x.has, .int .i64 x.kind]] w fun e w' => e = .returned (tx (sLine x)) ∧ Below w.heap.size w w' := by
  have hx := BoxX.new w (.slice la x.ls.length lc) x
  have hb0 := bal (Below.refl _ w) (.cells #[.slice la x.ls.length lc, .bool x.ov, .int .i64 x.n, .int .i64 x.t, .bool x.has, .int .i64 x.kind] 34)
  have hp0 := hp.later hb0
  have he0 := he.later hb0
  have hpr := fun W (h : Ps W la x.ls.length x.ls) (hm : Mx W) => print_any la x.ls.length lc x.ls W hn hf hm h
  have hfp := fun W h => Fx.print_any x.ov x.n W hx64 h
  have hit := fun W h => itoa_any x.t W ht0 ht1 h
  have a1 := print_short x.ls
  have a2 := Fx.print_len (Fx.V.cnt (o := x.ov) hx64.1 hx64.2)
  have a3 := Lib.itoa_length_le x.t ht0 ht1
  have HR : Hid (sLine x = fPrint x.ls ++ [32] ++ Fx.fPrint (Fx.cnt x.ov x.n) ++ (if x.has = true then 32 :: Lib.itoa x.t else [])) := rfl
  clear hf hp he hb0
  have hb0 := bal (Below.refl _ w) (.cells #[.slice la x.ls.length lc, .bool x.ov, .int .i64 x.n, .int .i64 x.t, .bool x.has, .int .i64 x.kind] 34)
  generalize fPrint x.ls = p at *
  generalize Fx.fPrint (Fx.cnt x.ov x.n) = q at *
  generalize Lib.itoa x.t = r at *
  obtain ⟨t1, h1⟩ : ∃ t, t = p ++ [32] := ⟨_, rfl⟩
  obtain ⟨t2, h2⟩ : ∃ t, t = t1 ++ q := ⟨_, rfl⟩
  have l1 : t1.length ≤ 701 := by rw [h1]; simp; omega
  have l2 : t2.length ≤ 1701 := by rw [h2]; simp; omega
  have H1 : Hid (t1 = p ++ [32]) := h1
  have H2 : Hid (t2 = t1 ++ q) := h2
  obtain ⟨t3, h3⟩ : ∃ t, t = 32 :: r := ⟨_, rfl⟩
  obtain ⟨t4, h4⟩ : ∃ t, t = t2 ++ t3 := ⟨_, rfl⟩
  have l3 : t3.length ≤ 22 := by rw [h3]; simp; omega
  have hap1 : ((⟨#[32]⟩ : ByteArray) ++ ⟨r.toArray⟩) = ⟨t3.toArray⟩ := by rw [h3]; exact ba_append [32] r
  have hap2 : ((⟨t2.toArray⟩ : ByteArray) ++ ⟨t3.toArray⟩) = ⟨t4.toArray⟩ := by rw [h4]; exact ba_append _ _
  have HR : Hid (sLine x = if x.has = true then t4 else t2) := by
    show _ = _
    rw [HR.out, h4, h3, h2, h1]
    split <;> simp
  clear h1 h2 h3 h4
  go_enter Tryz.func49, Tryz.ntmps49
  go_wp2_with fail
  generalize w.alloc (.cells #[.slice la x.ls.length lc, .bool x.ov, .int .i64 x.n, .int .i64 x.t, .bool x.has, .int .i64 x.kind] 34) = w0 at *
  have D0 : Below w0.heap.size w0 w0.drew := (Below.refl _ _).drew
  have hx1 := hx.later D0
  have hp1 := hp0.later D0
  have B1 := Below.chain hb0 D0
  have B01 := D0
  refine wp_region_noPanic ?_
  refine wp_region_held_drew (S := fun W => BoxX W w.heap.size (.slice la x.ls.length lc) x) (by kernel_rfl) ?_ (fun _ => ?_)
  · exact hx1
  generalize w0.drew = w1 at *
  refine take_at 0 (some 4) (.pointer (some ⟨w.heap.size, 0, none⟩)) rfl rfl (by kernel_rfl) (by kernel_rfl) (by kernel_rfl) (fun _ _ _ h => h) (by rfl) (fun W hSw => by go_simp) hx1 ?_
  simp only [Act.put, List.setIfInBounds_toArray, List.set_cons_zero, List.set_cons_succ]
  refine take_at 1 (some 5) (.slice la x.ls.length lc) rfl rfl (by kernel_rfl) (by kernel_rfl) (by kernel_rfl) (fun _ _ _ h => h) (by rfl) (fun W hSw => by obtain ⟨c0, c1, c2, c3, c4, c5, f0, f1, f2, f3, f4, f5⟩ := hSw; go_simp) hx1 ?_
  simp only [Act.put, List.setIfInBounds_toArray, List.set_cons_zero, List.set_cons_succ]
  refine take_at 4 (some 8) (.pointer (some ⟨w.heap.size, 1, none⟩)) rfl rfl (by kernel_rfl) (by kernel_rfl) (by kernel_rfl) (fun _ _ _ h => h) (by rfl) (fun W hSw => by go_simp) hx1 ?_
  simp only [Act.put, List.setIfInBounds_toArray, List.set_cons_zero, List.set_cons_succ]
  refine take_at 5 (some 9) (.agg #[.bool x.ov, .int .i64 x.n]) rfl rfl (by kernel_rfl) (by kernel_rfl) (by kernel_rfl) (fun _ _ _ h => h) (by rfl) (fun W hSw => by obtain ⟨c0, c1, c2, c3, c4, c5, f0, f1, f2, f3, f4, f5⟩ := hSw; go_simp) hx1 ?_
  simp only [Act.put, List.setIfInBounds_toArray, List.set_cons_zero, List.set_cons_succ]
  refine wpAnyH_ready (rs := [2]) (by kernel_rfl) (by simp) ?_
  refine AllReadyH.cons rfl (fun K hK => ?_) AllReadyH.nil
  go_simp
  refine (hpr _ hp1 (he0.later B01).mx).mono ?_
  rintro e w2 ⟨rfl, hb2⟩
  have hx2 := hx1.later hb2
  have B2 := Below.chain B1 hb2
  have B02 := Below.chain B01 hb2
  refine hK.out _ _ ?_ (fun _ => ?_)
  · exact hx2
  clear hK K
  refine take_at 3 (some 7) (tx t1) rfl rfl (by kernel_rfl) (by kernel_rfl) (by kernel_rfl) (fun _ _ _ h => h) (by rfl) (fun W hSw => by exact exec_add rfl p [32] rfl rfl (by simp; omega) t1 H1.out W) hx2 ?_
  simp only [Act.put, List.setIfInBounds_toArray, List.set_cons_zero, List.set_cons_succ]
  refine wpAnyH_ready (rs := [6]) (by kernel_rfl) (by simp) ?_
  refine AllReadyH.cons rfl (fun K hK => ?_) AllReadyH.nil
  go_simp
  refine (hfp _ (he0.later B02).tab).mono ?_
  rintro e w3 ⟨rfl, hb3⟩
  have hx3 := hx2.later hb3
  have B3 := Below.chain B2 hb3
  have B03 := Below.chain B02 hb3
  refine hK.out _ _ ?_ (fun _ => ?_)
  · exact hx3
  clear hK K
  refine take_at 7 (some 11) (tx t2) rfl rfl (by kernel_rfl) (by kernel_rfl) (by kernel_rfl) (fun _ _ _ h => h) (by rfl) (fun W hSw => by exact exec_add rfl t1 q rfl rfl (by omega) t2 H2.out W) hx3 ?_
  simp only [Act.put, List.setIfInBounds_toArray, List.set_cons_zero, List.set_cons_succ]
  refine take_at 8 (some 3) (tx t2) rfl rfl (by kernel_rfl) (by kernel_rfl) (by kernel_rfl) (fun _ _ _ h => h) (by rfl) (fun W hSw => by go_simp) hx3 ?_
  simp only [Act.put, List.setIfInBounds_toArray, List.set_cons_zero, List.set_cons_succ]
  refine wpAnyH_done (by kernel_rfl) ?_ _
  refine NoPanic.normal ?_
  rcases (show x.has = true ∨ x.has = false by cases x.has <;> simp) with hh | hh
  · have HH : Hid (sLine x = t4) := by show _ = _; rw [HR.out, hh]; rfl
    obtain ⟨c0, c1, c2, c3, c4, c5, f0, f1, f2, f3, f4, f5⟩ := hx3
    rw [hh] at c4
    clear hh HR
    go_wp2_with fail
    refine (hit _ (he0.later B03).tab).mono ?_
    rintro e w4 ⟨rfl, hb4⟩
    go_wp2
    go_ret
    exact ⟨by rw [HH.out]; rfl, Below.chain B3 hb4⟩
  · have HH : Hid (sLine x = t2) := by show _ = _; rw [HR.out, hh]; rfl
    obtain ⟨c0, c1, c2, c3, c4, c5, f0, f1, f2, f3, f4, f5⟩ := hx3
    rw [hh] at c4
    clear hh HR
    go_wp2
    go_ret
    exact ⟨by rw [HH.out]; rfl, B3⟩

/-! ### kindLine -/
theorem kwd_len (k : Int) : (kwd k).length ≤ 7 := by
  unfold kwd
  split
  · decide
  · split
    · decide
    · split <;> decide
set_option maxHeartbeats 4000000 in
theorem kindLine_any (n : Str) (k : Int) (w : World) (hn : n.length ≤ 1000) : Calls Tryz.prog 51 #[tx n, .int .i64 k] w fun e w' => e = .returned (tx (kLine n k)) ∧ w = w' := by
  have hk := fun W => kindWord_any k W
  have hkl := kwd_len k
  have HR : Hid (kLine n k = [35, 32, 84, 89, 80, 69, 32] ++ n ++ [32] ++ kwd k) := rfl
  generalize kwd k = q at *
  obtain ⟨t1, h1⟩ : ∃ t, t = [35, 32, 84, 89, 80, 69, 32] ++ n := ⟨_, rfl⟩
  obtain ⟨t2, h2⟩ : ∃ t, t = t1 ++ [32] := ⟨_, rfl⟩
  obtain ⟨t3, h3⟩ : ∃ t, t = t2 ++ q := ⟨_, rfl⟩
  have l1 : t1.length ≤ 1007 := by rw [h1]; simp; omega
  have l2 : t2.length ≤ 1008 := by rw [h2]; simp; omega
  have hap1 : ((⟨#[35, 32, 84, 89, 80, 69, 32]⟩ : ByteArray) ++ ⟨n.toArray⟩) = ⟨t1.toArray⟩ := by rw [h1]; exact ba_append [35, 32, 84, 89, 80, 69, 32] n
  have hap2 : ((⟨t1.toArray⟩ : ByteArray) ++ ⟨#[32]⟩) = ⟨t2.toArray⟩ := by rw [h2]; exact ba_append t1 [32]
  have hap3 : ((⟨t2.toArray⟩ : ByteArray) ++ ⟨q.toArray⟩) = ⟨t3.toArray⟩ := by rw [h3]; exact ba_append _ _
  have HR : Hid (kLine n k = t3) := by show _ = _; rw [HR.out, h3, h2, h1]
  clear h1 h2 h3
  go_enter Tryz.func51, Tryz.ntmps51
  go_wp2_with fail
  refine (hk _).mono ?_
  rintro e w1 ⟨rfl, rfl⟩
  go_wp2
  go_ret
  exact ⟨by rw [HR.out]; rfl, rfl⟩

/-! ### ended -/
theorem ended_take {l : List Str} {j : Nat} (h : j < l.length) : ended (l.take (j + 1)) = ended (l.take j) ++ (l.getD j [] ++ [10]) := by
  rw [List.take_succ_eq_append_getElem h, ended_append, ended_one]
  simp [List.getD, List.getElem?_eq_getElem h]
theorem ended_le (l : List Str) (j : Nat) : (ended (l.take j)).length ≤ (ended l).length := by
  have e : ended l = ended (l.take j) ++ ended (l.drop j) := by rw [← ended_append, List.take_append_drop]
  rw [e]
  simp
set_option maxHeartbeats 8000000 in
theorem ended_any (ao : Option Addr) (n cap : Nat) (l : List Str) (w : World) (hn : n ≤ 1000000) (hl : (ended l).length ≤ 1000000) (hs : Ss w ao n l) : Calls Tryz.prog 52 #[.slice ao n cap] w fun e w' => e = .returned (tx (ended l)) ∧ Below w.heap.size w w' := by
  obtain ⟨hlen, hcell⟩ := hs
  have HL : Hid (l.length = n) := hlen
  have hb0 := bal (Below.refl _ w) (.cells #[.pointer none, .slice none 0 0] 130)
  have hB0 := Lib.fresh_isBuilder 130 5 w
  have hsz : w.heap.size ≤ (w.alloc (.cells #[.pointer none, .slice none 0 0] 130)).heap.size := by simp
  clear hlen
  go_enter Tryz.func52, Tryz.ntmps52
  go_wp2_with fail
  generalize w.alloc (.cells _ 130) = w0 at *
  go_loopw [8] (fun i wr => ∃ j : Nat, j ≤ n ∧ i = .int .i64 j ∧ Lib.IsBuilder 130 5 w.heap.size w.heap.size (Lib.byteCells (ended (l.take j))) wr ∧ Below w.heap.size w wr) (fun i _ => n - (intOf i).toNat)
  case atStart => exact ⟨0, by omega, rfl, hB0, hb0⟩
  case round =>
    obtain ⟨j, hj, rfl, hB, hb⟩ := hrel
    by_cases hlt : j < n
    · obtain ⟨b, off, rfl, hc⟩ := hcell (by omega)
      have k0 := cell_later' (hc j hlt) hb
      have hE := ended_take (l := l) (j := j) (by rw [HL.out]; exact hlt)
      have hEl := ended_le l (j + 1)
      have HE : Hid _ := hE
      rw [hE] at hEl
      clear hE hc hcell
      generalize l.getD j [] = a at *
      generalize ended (l.take j) = E at *
      simp only [List.length_append, List.length_singleton] at hEl
      have hws := Tryz.ex_Builder_WriteString w.heap.size w.heap.size (Lib.byteCells E) ⟨a.toArray⟩ wr hB (by rw [Lib.byteCells_length, ba_size]; omega) hb.size
      go_wp2_with fail
      refine hws.mono ?_
      rintro e w1 ⟨rfl, hB1, hb1⟩
      rw [Lib.strCells_toArray, ← Lib.byteCells_append] at hB1
      have B1 := hb.trans hb1
      have hwb := Tryz.ex_Builder_WriteByte w.heap.size w.heap.size (Lib.byteCells (E ++ a)) 10 w1 (Or.inr hB1) (by rw [Lib.byteCells_length, List.length_append]; omega) B1.size
      go_wp2_with fail
      refine hwb.mono ?_
      rintro e w2 ⟨rfl, hB2, hb2⟩
      have e2 : Lib.byteCells (E ++ a) ++ [Value.int .u8 10] = Lib.byteCells (E ++ (a ++ [10])) := by rw [← List.append_assoc]; exact (Lib.byteCells_append (E ++ a) [10]).symm
      rw [e2] at hB2
      have B2 := B1.trans hb2
      go_wp2_with fail
      go_roundw
      case rel => exact ⟨j + 1, by omega, by go_num, by rw [HE.out]; exact Or.inr hB2, B2⟩
      case measure => simp [intOf]; omega
    · have e1 : j = n := by omega
      have HT : Hid (ended (l.take j) = ended l) := by show _ = _; rw [List.take_of_length_le (by rw [HL.out]; omega)]
      have hst := Tryz.ex_Builder_String_any w.heap.size w.heap.size (ended (l.take j)) wr hB hb.size
      generalize ended (l.take j) = E at *
      clear hcell
      go_wp2_with fail
      refine hst.mono ?_
      rintro e w1 ⟨rfl, hb1⟩
      go_wp2_with fail
      go_ret
      exact ⟨by rw [← HT.out]; rfl, hb.trans hb1⟩
end Go.Proofs.YtcbjhfnlhpallaaGreatDoor
