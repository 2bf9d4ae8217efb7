/- Split at one sign, Atoi, Itoa; timeOf, isTime, hasMetric, metricOf, kindWord, kindOf: each for every argument. -/
import Derived.Test.YtcbjhfnlhpallaaGreatDoorBaseA
import Derived.Test.YtcbjhfnlhpallaaGreatDoorEShelf
import Derived.Test.YtcbjhfnlhpallaaGreatDoorEMem
import Derived.Lib.AtoiAllMem
import Derived.BigQuiet
namespace Go.Proofs.YtcbjhfnlhpallaaGreatDoor
open Go.RowKit

/-! ### What the library's variables hold -/
def Sent (w : World) (g : Nat) : Prop := ∃ ev, w.cell? ⟨g, 0, none⟩ = some ev ∧ (ev = .nilIface ∨ ∃ te pe, ev = .iface te pe)
theorem Sent.later {w w' : World} {g : Nat} (h : Sent w g) (hb : Below w.heap.size w w') : Sent w' g := by
  obtain ⟨ev, h1, h2⟩ := h
  exact ⟨ev, (hb.cell (p := ⟨g, 0, none⟩) (World.block_lt_of_cell? _ _ h1)).trans h1, h2⟩
structure Ev (w : World) : Prop where
  mx : Mx w
  e2 : Sent w 2
  e3 : Sent w 3
  tab : Fx.Tab Tryz.prog w
theorem Ev.later {w w' : World} (h : Ev w) (hb : Below w.heap.size w w') : Ev w' := ⟨h.mx.later hb, h.e2.later hb, h.e3.later hb, h.tab.later hb⟩

/-! ### The library -/
theorem splitS_any (c : UInt8) (s : Str) (w : World) (hs : s.length ≤ 1000000) (hm : Mx w) :
    Calls Tryz.prog 26 #[tx s, tx [c]] w fun e w' => e = .returned (.slice (some ⟨w.heap.size, 0, none⟩) (sp c s).length (sp c s).length) ∧ Ss w' (some ⟨w.heap.size, 0, none⟩) (sp c s).length (sp c s) ∧ Below w.heap.size w w' := by
  obtain ⟨m, hm⟩ := hm
  refine (Tryz.ex_strings_Split ⟨s.toArray⟩ ⟨[c].toArray⟩ m w (by rw [ba_size]; omega) hm (by rw [ba_size]; simp)).mono ?_
  rintro e w' ⟨rfl, rfl⟩
  have hd := Lib.splitB_data ⟨[c].toArray⟩ 0 (Lib.countB ⟨s.toArray⟩ ⟨[c].toArray⟩) ⟨s.toArray⟩
  have hsp : Lib.splitK [c] 0 (Lib.count s [c]) s = sp c s := split_sp c _ s rfl
  have hd : (Lib.splitB ⟨[c].toArray⟩ 0 (Lib.countB ⟨s.toArray⟩ ⟨[c].toArray⟩) ⟨s.toArray⟩).map (·.data.toList) = sp c s := hd.trans hsp
  have hlen := Lib.splitB_all ⟨[c].toArray⟩ (by rw [ba_size]; simp) 0 _ ⟨s.toArray⟩ rfl
  generalize Lib.splitB ⟨[c].toArray⟩ 0 (Lib.countB ⟨s.toArray⟩ ⟨[c].toArray⟩) ⟨s.toArray⟩ = L at *
  have hl : (sp c s).length = L.length := by rw [← hd]; simp
  have hn : Lib.countB ⟨s.toArray⟩ ⟨[c].toArray⟩ + 1 = (sp c s).length := by rw [hl]; exact hlen.symm
  rw [hn]
  refine ⟨rfl, ⟨rfl, fun _ => ⟨w.heap.size, 0, rfl, fun j hj => ?_⟩⟩, bal (Below.refl _ _) _⟩
  have e1 : (w.alloc (.cells (L.map Value.string).toArray 9)).cell? ⟨w.heap.size, 0 + j, none⟩ = (L.map Value.string).toArray[0 + j]? := cell_of_row _ _ _ _ _ _ (heap_alloc_new w _)
  rw [e1, Nat.zero_add, List.getElem?_toArray, List.getElem?_map, List.getElem?_eq_getElem (by omega)]
  have e2 : (sp c s).getD j [] = (L[j]'(by omega)).data.toList := by
    rw [← hd]
    simp [List.getD, List.getElem?_eq_getElem (show j < L.length by omega)]
  rw [e2]
  rfl
theorem itoa_any (n : Int) (w : World) (h0 : -9223372036854775808 ≤ n) (h1 : n ≤ 9223372036854775807) (ht : Fx.Tab Tryz.prog w) : Calls Tryz.prog 75 #[.int .i64 n] w fun e w' => e = .returned (tx (Lib.itoa n)) ∧ Below w.heap.size w w' := by
  refine (Tryz.ex_strconv_Itoa n h0 h1 w ht).mono ?_
  rintro e w' ⟨rfl, k, os, rfl⟩
  exact ⟨rfl, Fx.below_grow w k os⟩
theorem bytesWorld_below' (w : World) (t : TypeId) (s : ByteArray) : Below w.heap.size w (Lib.bytesWorld w t s) := Lib.bytesWorld_below _ _ _
theorem atoi_ok (s : Str) (v : Int) (w : World) (hs : s.length ≤ 1000000) (h : Lib.atoiAll s = .ok v) : Calls Tryz.prog 74 #[tx s] w fun e w' => e = .returned (.tuple #[.int .i64 v, .nilIface]) ∧ Below w.heap.size w w' := by
  refine (Tryz.ex_strconv_Atoi_ok ⟨s.toArray⟩ (by rw [ba_size]; omega) v h w).mono ?_
  rintro e w' ⟨rfl, h⟩
  refine ⟨rfl, ?_⟩
  rcases h with rfl | ⟨t, rfl⟩
  · exact Below.refl _ _
  · exact bytesWorld_below' _ _ _
theorem atoi_no (s : Str) (w : World) (hs : s.length ≤ 1000000) (h : ∀ v, Lib.atoiAll s ≠ .ok v) (he : Ev w) : Calls Tryz.prog 74 #[tx s] w fun e w' => ∃ v a, e = .returned (.tuple #[.int .i64 v, .iface 172 (.pointer (some a))]) ∧ Below w.heap.size w w' := by
  cases hc : Lib.atoiAll s with
  | ok v => exact absurd hc (h v)
  | «syntax» =>
    obtain ⟨ev, h1, h2⟩ := he.e2
    refine (Tryz.ex_strconv_Atoi_syntax ⟨s.toArray⟩ (by rw [ba_size]; omega) hc ev w h1 h2).mono ?_
    rintro e w' ⟨N, rfl, _, _, hb⟩
    exact ⟨_, _, rfl, hb⟩
  | range =>
    obtain ⟨ev, h1, h2⟩ := he.e3
    refine (Tryz.ex_strconv_Atoi_range ⟨s.toArray⟩ (by rw [ba_size]; omega) hc ev w h1 h2).mono ?_
    rintro e w' ⟨N, rfl, _, _, hb⟩
    exact ⟨_, _, rfl, hb⟩

/-! ### Leaves -/
theorem isTime_any (t : Int) (w : World) : Calls Tryz.prog 45 #[.int .i64 t] w fun e w' => e = .returned (.bool (decide (0 ≤ t ∧ t ≤ 1000000))) ∧ w = w' := by
  go_enter Tryz.func45, Tryz.ntmps45
  go_wp2
  all_goals
    go_ret
    exact ⟨ret_bool (by rw [Bool.eq_iff_iff]; simp; omega), rfl⟩
theorem kindWord_any (k : Int) (w : World) : Calls Tryz.prog 46 #[.int .i64 k] w fun e w' => e = .returned (tx (kwd k)) ∧ w = w' := by
  by_cases h0 : k = 0
  · subst h0
    go_enter Tryz.func46, Tryz.ntmps46
    go_wp2
    go_ret
    exact ⟨rfl, rfl⟩
  · have t0 : (k == 0) = false := beq_eq_false_iff_ne.2 h0
    by_cases h1 : k = 1
    · subst h1
      go_enter Tryz.func46, Tryz.ntmps46
      go_wp2
      go_ret
      exact ⟨rfl, rfl⟩
    · have t1 : (k == 1) = false := beq_eq_false_iff_ne.2 h1
      by_cases h2 : k = 2
      · subst h2
        go_enter Tryz.func46, Tryz.ntmps46
        go_wp2
        go_ret
        exact ⟨rfl, rfl⟩
      · have t2 : (k == 2) = false := beq_eq_false_iff_ne.2 h2
        have HK : Hid (kwd k = []) := by show _ = _; unfold kwd; rw [if_neg h0, if_neg h1, if_neg h2]
        clear h0 h1 h2
        go_enter Tryz.func46, Tryz.ntmps46
        go_wp2
        go_ret
        exact ⟨by rw [HK.out]; rfl, rfl⟩
theorem hasMetric_any (ao : Option Addr) (n cap : Nat) (l : List Pr) (w : World) (hn : n ≤ 1000000) (hf : Fit l) (hs : Ps w ao n l) : Calls Tryz.prog 37 #[.slice ao n cap] w fun e w' => e = .returned (.bool (fName (fGet l nm))) ∧ Below w.heap.size w w' := by
  have hg := get_any ao n cap l nm w (by omega) hs
  have hl : (fGet l nm).length ≤ 9223372036854775807 := by
    by_cases h : fGet l nm = []
    · rw [h]; simp
    · exact (hf _ (get_mem h)).2
  have hnm := fun W => name_any (fGet l nm) W hl
  generalize fGet l nm = v at *
  go_enter Tryz.func37, Tryz.ntmps37
  go_wp2_with fail
  refine hg.mono ?_
  rintro e w1 ⟨rfl, hb1⟩
  go_wp2_with fail
  refine (hnm _).mono ?_
  rintro e w2 ⟨rfl, rfl⟩
  go_wp2_with fail
  go_ret
  exact ⟨rfl, hb1⟩
theorem metricOf_any (ao : Option Addr) (n cap : Nat) (x : Scr) (w : World) (hn : n ≤ 1000000) (hs : Ps w ao n x.ls) : Calls Tryz.prog 50 #[.agg #[.slice ao n cap, .bool x.ov, .int .i64 x.n, .int .i64 x.t, .bool x.has, .int .i64 x.kind]] w fun e w' => e = .returned (tx (mname x)) ∧ Below w.heap.size w w' := by
  have hb0 := bal (Below.refl _ w) (.cells #[.slice ao n cap, .bool x.ov, .int .i64 x.n, .int .i64 x.t, .bool x.has, .int .i64 x.kind] 34)
  have hg := get_any ao n cap x.ls nm _ (by omega) (hs.later hb0)
  unfold mname
  generalize fGet x.ls nm = v at *
  go_enter Tryz.func50, Tryz.ntmps50
  go_wp2_with fail
  refine hg.mono ?_
  rintro e w1 ⟨rfl, hb1⟩
  go_wp2_with fail
  go_ret
  exact ⟨rfl, Below.chain hb0 hb1⟩
theorem timeOf_any (s : Str) (w : World) (hs : s.length ≤ 1000000) (he : Ev w) : Calls Tryz.prog 39 #[tx s] w fun e w' => e = .returned (.tuple #[.int .i64 (((tm s).getD 0 : Nat) : Int), .bool (tm s).isSome]) ∧ Below w.heap.size w w' := by
  by_cases hok : ∃ v, Lib.atoiAll s = .ok v
  · obtain ⟨v, hv⟩ := hok
    obtain ⟨b0, b1⟩ := Lib.atoiAll_bounds hv
    have ha := atoi_ok s v w hs hv
    have hi := fun W (h : Below w.heap.size w W) => itoa_any v W b0 b1 (he.later h).tab
    by_cases hp : Lib.itoa v = s
    · by_cases ht : 0 ≤ v ∧ v ≤ 1000000
      · obtain ⟨ht0, ht1⟩ := ht
        have ht : 0 ≤ v ∧ v ≤ 1000000 := ⟨ht0, ht1⟩
        have htm := tm_atoi hp ht.1 ht.2
        have HV : Hid ((((tm s).getD 0 : Nat) : Int) = v) := by show _ = _; rw [htm]; simp; omega
        have HS : Hid ((tm s).isSome = true) := by show _ = _; rw [htm]; rfl
        rw [hp] at hi
        generalize (((tm s).getD 0 : Nat) : Int) = x at *
        generalize (tm s).isSome = y at *
        clear htm ht hp hv
        go_enter Tryz.func39, Tryz.ntmps39
        go_wp2_with fail
        refine ha.mono ?_
        rintro e w1 ⟨rfl, hb1⟩
        go_wp2_with fail
        refine (hi _ hb1).mono ?_
        rintro e w2 ⟨rfl, hb2⟩
        go_wp2
        go_ret2
        exact ⟨by rw [HV.out, HS.out]; rfl, Below.chain hb1 hb2⟩
      · have htm : tm s = none := by
          cases e : tm s with
          | none => rfl
          | some u =>
            obtain ⟨h1, h2, h3⟩ := atoi_tm e
            rw [hv] at h1
            injection h1 with h1
            exact absurd ⟨by omega, by omega⟩ ht
        have HV : Hid ((((tm s).getD 0 : Nat) : Int) = 0) := by show _ = _; rw [htm]; rfl
        have HS : Hid ((tm s).isSome = false) := by show _ = _; rw [htm]; rfl
        rw [hp] at hi
        generalize (((tm s).getD 0 : Nat) : Int) = x at *
        generalize (tm s).isSome = y at *
        clear htm hp hv
        by_cases ht0 : 0 ≤ v
        · have ht1 : ¬ v ≤ 1000000 := fun h => ht ⟨ht0, h⟩
          clear ht
          go_enter Tryz.func39, Tryz.ntmps39
          go_wp2_with fail
          refine ha.mono ?_
          rintro e w1 ⟨rfl, hb1⟩
          go_wp2_with fail
          refine (hi _ hb1).mono ?_
          rintro e w2 ⟨rfl, hb2⟩
          go_wp2
          all_goals first
            | (go_ret2; exact ⟨by rw [HV.out, HS.out]; rfl, Below.chain hb1 hb2⟩)
            | (exfalso; rename_i hc; simp at hc; omega)
        · clear ht
          go_enter Tryz.func39, Tryz.ntmps39
          go_wp2_with fail
          refine ha.mono ?_
          rintro e w1 ⟨rfl, hb1⟩
          go_wp2_with fail
          refine (hi _ hb1).mono ?_
          rintro e w2 ⟨rfl, hb2⟩
          go_wp2
          go_ret2
          exact ⟨by rw [HV.out, HS.out]; rfl, Below.chain hb1 hb2⟩
    · have htm : tm s = none := by
        cases e : tm s with
        | none => rfl
        | some u =>
          obtain ⟨h1, h2, h3⟩ := atoi_tm e
          rw [hv] at h1
          injection h1 with h1
          rw [h1] at hp
          exact absurd h2 hp
      have hp' : (Lib.itoa v == s) = false := beq_eq_false_iff_ne.2 hp
      have HV : Hid ((((tm s).getD 0 : Nat) : Int) = 0) := by show _ = _; rw [htm]; rfl
      have HS : Hid ((tm s).isSome = false) := by show _ = _; rw [htm]; rfl
      generalize (((tm s).getD 0 : Nat) : Int) = x at *
      generalize (tm s).isSome = y at *
      generalize Lib.itoa v = t at *
      clear htm hp hv
      go_enter Tryz.func39, Tryz.ntmps39
      go_wp2_with fail
      refine ha.mono ?_
      rintro e w1 ⟨rfl, hb1⟩
      go_wp2_with fail
      refine (hi _ hb1).mono ?_
      rintro e w2 ⟨rfl, hb2⟩
      go_wp2
      go_ret2
      exact ⟨by rw [HV.out, HS.out]; rfl, Below.chain hb1 hb2⟩
  · have ha := atoi_no s w hs (fun v hv => hok ⟨v, hv⟩) he
    have htm : tm s = none := by
      cases e : tm s with
      | none => rfl
      | some u => exact absurd ⟨_, (atoi_tm e).1⟩ hok
    have HV : Hid ((((tm s).getD 0 : Nat) : Int) = 0) := by show _ = _; rw [htm]; rfl
    have HS : Hid ((tm s).isSome = false) := by show _ = _; rw [htm]; rfl
    generalize (((tm s).getD 0 : Nat) : Int) = x at *
    generalize (tm s).isSome = y at *
    clear htm hok
    go_enter Tryz.func39, Tryz.ntmps39
    go_wp2_with fail
    refine ha.mono ?_
    rintro e w1 ⟨v, a, rfl, hb1⟩
    go_wp2
    go_ret2
    exact ⟨by rw [HV.out, HS.out]; rfl, hb1⟩
end Go.Proofs.YtcbjhfnlhpallaaGreatDoor
