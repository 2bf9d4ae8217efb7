/- same: of tokens that are alike. -/
import Derived.Test.YtajbjbnfklllkaaGreatDoorXEq
namespace Go.Proofs.YtajbjbnfklllkaaGreatDoor
open Go.RowKit

/-- A token as it is compared: with its place, or without. -/
def vu (pl : Bool) (x : Tk) : Tk := if pl = true then x else x.put 0
set_option maxHeartbeats 4000000 in
theorem same_any (ao bo : Option Addr) (n m ca cb : Nat) (l k : List Tk) (pl : Bool) (w : World) (hn : n ≤ 100000) (ha : Ts w ao n l) (hb : Ts w bo m k) (h : l.map (vu pl) = k.map (vu pl)) :
    Calls Tryz.prog 11 #[.slice ao n ca, .slice bo m cb, .bool pl] w fun e w' => e = .returned (.bool true) ∧ Below w.heap.size w w' := by
  have hlen : l.length = k.length := by have := congrArg List.length h; simpa using this
  have hnm : m = n := by rw [← ha.1, ← hb.1, hlen]
  subst hnm
  have HL : Hid (l.length = m) := ha.1
  have HK : Hid (k.length = m) := hb.1
  have HH : Hid (∀ j, j < m → vu pl (l.getD j tk0) = vu pl (k.getD j tk0)) := fun j hj => by
    have e : (l.map (vu pl))[j]? = (k.map (vu pl))[j]? := by rw [h]
    rw [List.getElem?_map, List.getElem?_map, List.getElem?_eq_getElem (by rw [HL.out]; exact hj), List.getElem?_eq_getElem (by rw [HK.out]; exact hj)] at e
    rw [getT_at (by rw [HL.out]; exact hj), getT_at (by rw [HK.out]; exact hj)]
    simpa using e
  clear h hlen
  have hmm : ((m : Int) != (m : Int)) = false := by simp
  go_enter Tryz.func11, Tryz.ntmps11
  go_wp2_with fail
  go_loopw [7] (fun i wr => ∃ (j : Nat), j ≤ m ∧ i = .int .i64 j ∧ Below w.heap.size w wr) (fun i _ => m - (intOf i).toNat)
  case atStart => exact ⟨0, by omega, rfl, Below.refl _ _⟩
  case round =>
    obtain ⟨j, hj, rfl, hbw⟩ := hrel
    by_cases hlt : j < m
    · obtain ⟨b1, o1, rfl, _⟩ := ha.2 (by omega)
      obtain ⟨b2, o2, rfl, _⟩ := hb.2 (by omega)
      obtain ⟨k0, k1, k2, k3, k4, k5⟩ := (ha.later hbw).at j hlt
      obtain ⟨q0, q1, q2, q3, q4, q5⟩ := (hb.later hbw).at j hlt
      have HE : Hid _ := HH.out j hlt
      generalize l.getD j tk0 = x at *
      generalize k.getD j tk0 = y at *
      have HX : AtT wr b1 (o1 + j * 6) x := ⟨k0, k1, k2, k3, k4, k5⟩
      have HY : AtT wr b2 (o2 + j * 6) y := ⟨q0, q1, q2, q3, q4, q5⟩
      clear k0 k1 k2 k3 k4 k5 q0 q1 q2 q3 q4 q5
      have hjm : (j : Int) < m := by omega
      go_upto_region 6 with fail
      obtain ⟨R6, hR6⟩ : ∃ R : Act → World → Prop, Hid (R = fun a' w' => ∃ b8 b9 : Nat, ∃ u6 u15 u16 u17 u18 u19 u20 u21 u22 u23 u24 u25 u26 u27 u28 u29 u30 u31 u32 u33 u34 u35 : Value, a' = { tmps := #[.slice (some ⟨b1, o1, none⟩) m ca, .slice (some ⟨b2, o2, none⟩) m cb, .bool pl, undef, undef, undef, u6, .int .i64 (j : Nat), .pointer (some ⟨b8, 0, none⟩), .pointer (some ⟨b9, 0, none⟩), .slice (some ⟨b1, o1, none⟩) m ca, .int .i64 (m : Nat), .slice (some ⟨b2, o2, none⟩) m cb, .int .i64 (m : Nat), .bool false, u15, u16, u17, u18, u19, u20, u21, u22, u23, u24, u25, u26, u27, u28, u29, u30, u31, u32, u33, u34, u35], defers := [] } ∧ BoxT w' b8 x ∧ BoxT w' b9 y ∧ b8 ≠ b9 ∧ wr.heap.size ≤ b8 ∧ wr.heap.size ≤ b9 ∧ Below wr.heap.size wr w') := ⟨_, rfl⟩
      refine region_mid R6 ?_ ?_
      · have C0 : Below wr.heap.size wr wr.drew := (Below.refl _ _).drew
        refine wp_region_noPanic ?_
        refine wp_region_held_drew (S := fun W => Below wr.heap.size wr W) (by kernel_rfl) ?_ (fun _ => ?_)
        · exact C0
        generalize wr.drew = wd at *
        refine take_at 0 (some 21) (.slice (some ⟨b1, o1, none⟩) m ca) rfl rfl (by kernel_rfl) (by kernel_rfl) (by kernel_rfl) (fun _ _ _ h => h) (by rfl) (fun W hSw => by go_simp) C0 ?_
        simp only [Act.put, List.setIfInBounds_toArray, List.set_cons_zero, List.set_cons_succ]
        refine take_at 1 (some 22) (.int .i64 (j : Nat)) rfl rfl (by kernel_rfl) (by kernel_rfl) (by kernel_rfl) (fun _ _ _ h => h) (by rfl) (fun W hSw => by go_simp) C0 ?_
        simp only [Act.put, List.setIfInBounds_toArray, List.set_cons_zero, List.set_cons_succ]
        refine take_at 2 (some 23) (.pointer (some ⟨b1, o1 + j * 6, none⟩)) rfl rfl (by kernel_rfl) (by kernel_rfl) (by kernel_rfl) (fun _ _ _ h => h) (by rfl) (fun W hSw => by go_simp) C0 ?_
        simp only [Act.put, List.setIfInBounds_toArray, List.set_cons_zero, List.set_cons_succ]
        refine take_at 3 (some 24) (tv x) rfl rfl (by kernel_rfl) (by kernel_rfl) (by kernel_rfl) (fun _ _ _ h => h) (by rfl) (fun W hSw => by obtain ⟨c0, c1, c2, c3, c4, c5⟩ := HX.later hSw; go_simp) C0 ?_
        simp only [Act.put, List.setIfInBounds_toArray, List.set_cons_zero, List.set_cons_succ]
        refine take_at 4 (some 25) (.slice (some ⟨b2, o2, none⟩) m cb) rfl rfl (by kernel_rfl) (by kernel_rfl) (by kernel_rfl) (fun _ _ _ h => h) (by rfl) (fun W hSw => by go_simp) C0 ?_
        simp only [Act.put, List.setIfInBounds_toArray, List.set_cons_zero, List.set_cons_succ]
        refine take_at 5 (some 26) (.int .i64 (j : Nat)) rfl rfl (by kernel_rfl) (by kernel_rfl) (by kernel_rfl) (fun _ _ _ h => h) (by rfl) (fun W hSw => by go_simp) C0 ?_
        simp only [Act.put, List.setIfInBounds_toArray, List.set_cons_zero, List.set_cons_succ]
        refine take_at 6 (some 27) (.pointer (some ⟨b2, o2 + j * 6, none⟩)) rfl rfl (by kernel_rfl) (by kernel_rfl) (by kernel_rfl) (fun _ _ _ h => h) (by rfl) (fun W hSw => by go_simp) C0 ?_
        simp only [Act.put, List.setIfInBounds_toArray, List.set_cons_zero, List.set_cons_succ]
        refine take_at 7 (some 28) (tv y) rfl rfl (by kernel_rfl) (by kernel_rfl) (by kernel_rfl) (fun _ _ _ h => h) (by rfl) (fun W hSw => by obtain ⟨c0, c1, c2, c3, c4, c5⟩ := HY.later hSw; go_simp) C0 ?_
        simp only [Act.put, List.setIfInBounds_toArray, List.set_cons_zero, List.set_cons_succ]
        refine wpAnyH_ready (rs := [8, 9]) (by kernel_rfl) (by simp) ?_
        refine AllReadyH.cons rfl (fun K hK => ?_) (AllReadyH.cons rfl (fun K hK => ?_) AllReadyH.nil)
        · go_simp
          have D1 := bal C0 (.cells #[.int .i64 0, .int .i64 0, .string ⟨#[]⟩, .bool false, .int .i64 0, .int .i64 0] 36)
          have z1 := BoxT.new0 wd
          have zn1 := C0.size
          have zl1 := z1.lt
          generalize wd.alloc (.cells #[.int .i64 0, .int .i64 0, .string ⟨#[]⟩, .bool false, .int .i64 0, .int .i64 0] 36) = y1 at *
          refine hK.out _ _ ?_ (fun _ => ?_)
          · exact D1
          clear hK K
          refine wpAnyH_ready (rs := [9]) (by kernel_rfl) (by simp) ?_
          refine AllReadyH.cons rfl (fun K hK => ?_) AllReadyH.nil
          go_simp
          have D2 := bal D1 (.cells #[.int .i64 0, .int .i64 0, .string ⟨#[]⟩, .bool false, .int .i64 0, .int .i64 0] 36)
          have z2 := BoxT.new0 y1
          have zn2 := D1.size
          have z3 := z1.later (bal (Below.refl _ _) (.cells #[.int .i64 0, .int .i64 0, .string ⟨#[]⟩, .bool false, .int .i64 0, .int .i64 0] 36))
          generalize y1.alloc (.cells #[.int .i64 0, .int .i64 0, .string ⟨#[]⟩, .bool false, .int .i64 0, .int .i64 0] 36) = y2 at *
          refine hK.out _ _ ?_ (fun _ => ?_)
          · exact D2
          clear hK K
          generalize wd.heap.size = ba at *
          generalize y1.heap.size = bb at *
          have hab : ba ≠ bb := by omega
          refine wpAnyH_ready (rs := [10]) (by kernel_rfl) (by simp) ?_
          refine AllReadyH.cons rfl (fun K hK => ?_) AllReadyH.nil
          have q8 : BoxT (World.setCell (World.setCell (World.setCell (World.setCell (World.setCell (World.setCell y2 ⟨ba, 0, none⟩ (.int .i64 x.k)) ⟨ba, 1, none⟩ (.int .i64 x.p)) ⟨ba, 2, none⟩ (.string ⟨x.t.toArray⟩)) ⟨ba, 3, none⟩ (.bool x.o)) ⟨ba, 4, none⟩ (.int .i64 x.n)) ⟨ba, 5, none⟩ (.int .i64 x.d)) ba x := z3.put6 x
          have q9 : BoxT (World.setCell (World.setCell (World.setCell (World.setCell (World.setCell (World.setCell y2 ⟨ba, 0, none⟩ (.int .i64 x.k)) ⟨ba, 1, none⟩ (.int .i64 x.p)) ⟨ba, 2, none⟩ (.string ⟨x.t.toArray⟩)) ⟨ba, 3, none⟩ (.bool x.o)) ⟨ba, 4, none⟩ (.int .i64 x.n)) ⟨ba, 5, none⟩ (.int .i64 x.d)) bb tk0 := z2.far6 (b' := ba) (by omega) (.int .i64 x.k) (.int .i64 x.p) (tx x.t) (.bool x.o) (.int .i64 x.n) (.int .i64 x.d)
          have D3 : Below wr.heap.size wr (World.setCell (World.setCell (World.setCell (World.setCell (World.setCell (World.setCell y2 ⟨ba, 0, none⟩ (.int .i64 x.k)) ⟨ba, 1, none⟩ (.int .i64 x.p)) ⟨ba, 2, none⟩ (.string ⟨x.t.toArray⟩)) ⟨ba, 3, none⟩ (.bool x.o)) ⟨ba, 4, none⟩ (.int .i64 x.n)) ⟨ba, 5, none⟩ (.int .i64 x.d)) := below6 D2 (b := ba) (by omega) (.int .i64 x.k) (.int .i64 x.p) (tx x.t) (.bool x.o) (.int .i64 x.n) (.int .i64 x.d)
          have c0 := z3.c0
          have c1 := z3.c1
          have c2 := z3.c2
          have c3 := z3.c3
          have c4 := z3.c4
          have c5 := z3.c5
          have f0 := z3.f0
          have f1 := z3.f1
          have f2 := z3.f2
          have f3 := z3.f3
          have f4 := z3.f4
          have f5 := z3.f5
          go_simp
          clear c0 c1 c2 c3 c4 c5 f0 f1 f2 f3 f4 f5 z2 z3
          generalize (World.setCell (World.setCell (World.setCell (World.setCell (World.setCell (World.setCell y2 ⟨ba, 0, none⟩ (.int .i64 x.k)) ⟨ba, 1, none⟩ (.int .i64 x.p)) ⟨ba, 2, none⟩ (.string ⟨x.t.toArray⟩)) ⟨ba, 3, none⟩ (.bool x.o)) ⟨ba, 4, none⟩ (.int .i64 x.n)) ⟨ba, 5, none⟩ (.int .i64 x.d)) = y3 at *
          refine hK.out _ _ ?_ (fun _ => ?_)
          · exact D3
          clear hK K
          refine wpAnyH_ready (rs := [11]) (by kernel_rfl) (by simp) ?_
          refine AllReadyH.cons rfl (fun K hK => ?_) AllReadyH.nil
          have p9 : BoxT (World.setCell (World.setCell (World.setCell (World.setCell (World.setCell (World.setCell y3 ⟨bb, 0, none⟩ (.int .i64 y.k)) ⟨bb, 1, none⟩ (.int .i64 y.p)) ⟨bb, 2, none⟩ (.string ⟨y.t.toArray⟩)) ⟨bb, 3, none⟩ (.bool y.o)) ⟨bb, 4, none⟩ (.int .i64 y.n)) ⟨bb, 5, none⟩ (.int .i64 y.d)) bb y := q9.put6 y
          have p8 : BoxT (World.setCell (World.setCell (World.setCell (World.setCell (World.setCell (World.setCell y3 ⟨bb, 0, none⟩ (.int .i64 y.k)) ⟨bb, 1, none⟩ (.int .i64 y.p)) ⟨bb, 2, none⟩ (.string ⟨y.t.toArray⟩)) ⟨bb, 3, none⟩ (.bool y.o)) ⟨bb, 4, none⟩ (.int .i64 y.n)) ⟨bb, 5, none⟩ (.int .i64 y.d)) ba x := q8.far6 (b' := bb) (by omega) (.int .i64 y.k) (.int .i64 y.p) (tx y.t) (.bool y.o) (.int .i64 y.n) (.int .i64 y.d)
          have D4 : Below wr.heap.size wr (World.setCell (World.setCell (World.setCell (World.setCell (World.setCell (World.setCell y3 ⟨bb, 0, none⟩ (.int .i64 y.k)) ⟨bb, 1, none⟩ (.int .i64 y.p)) ⟨bb, 2, none⟩ (.string ⟨y.t.toArray⟩)) ⟨bb, 3, none⟩ (.bool y.o)) ⟨bb, 4, none⟩ (.int .i64 y.n)) ⟨bb, 5, none⟩ (.int .i64 y.d)) := below6 D3 (b := bb) (by omega) (.int .i64 y.k) (.int .i64 y.p) (tx y.t) (.bool y.o) (.int .i64 y.n) (.int .i64 y.d)
          have c0 := q9.c0
          have c1 := q9.c1
          have c2 := q9.c2
          have c3 := q9.c3
          have c4 := q9.c4
          have c5 := q9.c5
          have f0 := q9.f0
          have f1 := q9.f1
          have f2 := q9.f2
          have f3 := q9.f3
          have f4 := q9.f4
          have f5 := q9.f5
          go_simp
          clear c0 c1 c2 c3 c4 c5 f0 f1 f2 f3 f4 f5 q8 q9
          generalize (World.setCell (World.setCell (World.setCell (World.setCell (World.setCell (World.setCell y3 ⟨bb, 0, none⟩ (.int .i64 y.k)) ⟨bb, 1, none⟩ (.int .i64 y.p)) ⟨bb, 2, none⟩ (.string ⟨y.t.toArray⟩)) ⟨bb, 3, none⟩ (.bool y.o)) ⟨bb, 4, none⟩ (.int .i64 y.n)) ⟨bb, 5, none⟩ (.int .i64 y.d)) = y4 at *
          refine hK.out _ _ ?_ (fun _ => ?_)
          · exact D4
          clear hK K
          refine wpAnyH_done (by kernel_rfl) ?_ _
          refine NoPanic.normal ?_
          show R6 _ _
          rw [hR6.out]
          exact ⟨ba, bb, _, _, _, _, _, _, _, _, _, _, _, _, _, _, _, _, _, _, _, _, _, _, rfl, p8, p9, by omega, by omega, by omega, D4⟩
        · go_simp
          have D1 := bal C0 (.cells #[.int .i64 0, .int .i64 0, .string ⟨#[]⟩, .bool false, .int .i64 0, .int .i64 0] 36)
          have z1 := BoxT.new0 wd
          have zn1 := C0.size
          have zl1 := z1.lt
          generalize wd.alloc (.cells #[.int .i64 0, .int .i64 0, .string ⟨#[]⟩, .bool false, .int .i64 0, .int .i64 0] 36) = y1 at *
          refine hK.out _ _ ?_ (fun _ => ?_)
          · exact D1
          clear hK K
          refine wpAnyH_ready (rs := [8]) (by kernel_rfl) (by simp) ?_
          refine AllReadyH.cons rfl (fun K hK => ?_) AllReadyH.nil
          go_simp
          have D2 := bal D1 (.cells #[.int .i64 0, .int .i64 0, .string ⟨#[]⟩, .bool false, .int .i64 0, .int .i64 0] 36)
          have z2 := BoxT.new0 y1
          have zn2 := D1.size
          have z3 := z1.later (bal (Below.refl _ _) (.cells #[.int .i64 0, .int .i64 0, .string ⟨#[]⟩, .bool false, .int .i64 0, .int .i64 0] 36))
          generalize y1.alloc (.cells #[.int .i64 0, .int .i64 0, .string ⟨#[]⟩, .bool false, .int .i64 0, .int .i64 0] 36) = y2 at *
          refine hK.out _ _ ?_ (fun _ => ?_)
          · exact D2
          clear hK K
          generalize wd.heap.size = ba at *
          generalize y1.heap.size = bb at *
          have hab : ba ≠ bb := by omega
          refine wpAnyH_ready (rs := [10]) (by kernel_rfl) (by simp) ?_
          refine AllReadyH.cons rfl (fun K hK => ?_) AllReadyH.nil
          have q8 : BoxT (World.setCell (World.setCell (World.setCell (World.setCell (World.setCell (World.setCell y2 ⟨bb, 0, none⟩ (.int .i64 x.k)) ⟨bb, 1, none⟩ (.int .i64 x.p)) ⟨bb, 2, none⟩ (.string ⟨x.t.toArray⟩)) ⟨bb, 3, none⟩ (.bool x.o)) ⟨bb, 4, none⟩ (.int .i64 x.n)) ⟨bb, 5, none⟩ (.int .i64 x.d)) bb x := z2.put6 x
          have q9 : BoxT (World.setCell (World.setCell (World.setCell (World.setCell (World.setCell (World.setCell y2 ⟨bb, 0, none⟩ (.int .i64 x.k)) ⟨bb, 1, none⟩ (.int .i64 x.p)) ⟨bb, 2, none⟩ (.string ⟨x.t.toArray⟩)) ⟨bb, 3, none⟩ (.bool x.o)) ⟨bb, 4, none⟩ (.int .i64 x.n)) ⟨bb, 5, none⟩ (.int .i64 x.d)) ba tk0 := z3.far6 (b' := bb) (by omega) (.int .i64 x.k) (.int .i64 x.p) (tx x.t) (.bool x.o) (.int .i64 x.n) (.int .i64 x.d)
          have D3 : Below wr.heap.size wr (World.setCell (World.setCell (World.setCell (World.setCell (World.setCell (World.setCell y2 ⟨bb, 0, none⟩ (.int .i64 x.k)) ⟨bb, 1, none⟩ (.int .i64 x.p)) ⟨bb, 2, none⟩ (.string ⟨x.t.toArray⟩)) ⟨bb, 3, none⟩ (.bool x.o)) ⟨bb, 4, none⟩ (.int .i64 x.n)) ⟨bb, 5, none⟩ (.int .i64 x.d)) := below6 D2 (b := bb) (by omega) (.int .i64 x.k) (.int .i64 x.p) (tx x.t) (.bool x.o) (.int .i64 x.n) (.int .i64 x.d)
          have c0 := z2.c0
          have c1 := z2.c1
          have c2 := z2.c2
          have c3 := z2.c3
          have c4 := z2.c4
          have c5 := z2.c5
          have f0 := z2.f0
          have f1 := z2.f1
          have f2 := z2.f2
          have f3 := z2.f3
          have f4 := z2.f4
          have f5 := z2.f5
          go_simp
          clear c0 c1 c2 c3 c4 c5 f0 f1 f2 f3 f4 f5 z2 z3
          generalize (World.setCell (World.setCell (World.setCell (World.setCell (World.setCell (World.setCell y2 ⟨bb, 0, none⟩ (.int .i64 x.k)) ⟨bb, 1, none⟩ (.int .i64 x.p)) ⟨bb, 2, none⟩ (.string ⟨x.t.toArray⟩)) ⟨bb, 3, none⟩ (.bool x.o)) ⟨bb, 4, none⟩ (.int .i64 x.n)) ⟨bb, 5, none⟩ (.int .i64 x.d)) = y3 at *
          refine hK.out _ _ ?_ (fun _ => ?_)
          · exact D3
          clear hK K
          refine wpAnyH_ready (rs := [11]) (by kernel_rfl) (by simp) ?_
          refine AllReadyH.cons rfl (fun K hK => ?_) AllReadyH.nil
          have p9 : BoxT (World.setCell (World.setCell (World.setCell (World.setCell (World.setCell (World.setCell y3 ⟨ba, 0, none⟩ (.int .i64 y.k)) ⟨ba, 1, none⟩ (.int .i64 y.p)) ⟨ba, 2, none⟩ (.string ⟨y.t.toArray⟩)) ⟨ba, 3, none⟩ (.bool y.o)) ⟨ba, 4, none⟩ (.int .i64 y.n)) ⟨ba, 5, none⟩ (.int .i64 y.d)) ba y := q9.put6 y
          have p8 : BoxT (World.setCell (World.setCell (World.setCell (World.setCell (World.setCell (World.setCell y3 ⟨ba, 0, none⟩ (.int .i64 y.k)) ⟨ba, 1, none⟩ (.int .i64 y.p)) ⟨ba, 2, none⟩ (.string ⟨y.t.toArray⟩)) ⟨ba, 3, none⟩ (.bool y.o)) ⟨ba, 4, none⟩ (.int .i64 y.n)) ⟨ba, 5, none⟩ (.int .i64 y.d)) bb x := q8.far6 (b' := ba) (by omega) (.int .i64 y.k) (.int .i64 y.p) (tx y.t) (.bool y.o) (.int .i64 y.n) (.int .i64 y.d)
          have D4 : Below wr.heap.size wr (World.setCell (World.setCell (World.setCell (World.setCell (World.setCell (World.setCell y3 ⟨ba, 0, none⟩ (.int .i64 y.k)) ⟨ba, 1, none⟩ (.int .i64 y.p)) ⟨ba, 2, none⟩ (.string ⟨y.t.toArray⟩)) ⟨ba, 3, none⟩ (.bool y.o)) ⟨ba, 4, none⟩ (.int .i64 y.n)) ⟨ba, 5, none⟩ (.int .i64 y.d)) := below6 D3 (b := ba) (by omega) (.int .i64 y.k) (.int .i64 y.p) (tx y.t) (.bool y.o) (.int .i64 y.n) (.int .i64 y.d)
          have c0 := q9.c0
          have c1 := q9.c1
          have c2 := q9.c2
          have c3 := q9.c3
          have c4 := q9.c4
          have c5 := q9.c5
          have f0 := q9.f0
          have f1 := q9.f1
          have f2 := q9.f2
          have f3 := q9.f3
          have f4 := q9.f4
          have f5 := q9.f5
          go_simp
          clear c0 c1 c2 c3 c4 c5 f0 f1 f2 f3 f4 f5 q8 q9
          generalize (World.setCell (World.setCell (World.setCell (World.setCell (World.setCell (World.setCell y3 ⟨ba, 0, none⟩ (.int .i64 y.k)) ⟨ba, 1, none⟩ (.int .i64 y.p)) ⟨ba, 2, none⟩ (.string ⟨y.t.toArray⟩)) ⟨ba, 3, none⟩ (.bool y.o)) ⟨ba, 4, none⟩ (.int .i64 y.n)) ⟨ba, 5, none⟩ (.int .i64 y.d)) = y4 at *
          refine hK.out _ _ ?_ (fun _ => ?_)
          · exact D4
          clear hK K
          refine wpAnyH_done (by kernel_rfl) ?_ _
          refine NoPanic.normal ?_
          show R6 _ _
          rw [hR6.out]
          exact ⟨bb, ba, _, _, _, _, _, _, _, _, _, _, _, _, _, _, _, _, _, _, _, _, _, _, rfl, p8, p9, by omega, by omega, by omega, D4⟩
      intro a' w4 h
      rw [hR6.out] at h
      obtain ⟨b8, b9, u6, u15, u16, u17, u18, u19, u20, u21, u22, u23, u24, u25, u26, u27, u28, u29, u30, u31, u32, u33, u34, u35, rfl, HA, HB, hne, h8, h9, hb4⟩ := h
      clear hR6 R6 HX HY
      have hbw4 := Below.chain hbw hb4
      cases pl with
      | true =>
        obtain rfl : x = y := HE.out
        obtain ⟨c0, c1, c2, c3, c4, c5, _, _, _, _, _, _⟩ := HA
        obtain ⟨e0, e1, e2, e3, e4, e5, _, _, _, _, _, _⟩ := HB
        have hnq := neq_tok x
        have hgd := guard_tok
        go_wp2
        go_roundw
        case rel => exact ⟨j + 1, by omega, by go_num, hbw4⟩
        case measure => simp [intOf]; omega
      | false =>
        have hxy : x.put 0 = y.put 0 := HE.out
        have HA1 := HA.put1 0
        have HB1 := HB.far1 (b' := b8) (fun e => hne e.symm) 1 (.int .i64 0)
        have HB2 := HB1.put1 0
        have HA2 := HA1.far1 (b' := b9) hne 1 (.int .i64 0)
        have k1 := HA.c1
        have k2 := HA.f1
        have k3 := HB1.c1
        have k4 := HB1.f1
        have hbw5 := (hbw4.setCell (p := ⟨b8, 1, none⟩) (by have := hbw.size; show _ ≤ b8; omega) (.int .i64 0)).setCell (p := ⟨b9, 1, none⟩) (by have := hbw.size; show _ ≤ b9; omega) (.int .i64 0)
        go_upto_region 9 with fail
        clear HA HB HA1 HB1 k1 k2 k3 k4 hbw4 hb4
        generalize (w4.setCell ⟨b8, 1, none⟩ (.int .i64 0)).setCell ⟨b9, 1, none⟩ (.int .i64 0) = w5 at *
        rw [← hxy] at HB2
        generalize x.put 0 = z at *
        obtain ⟨c0, c1, c2, c3, c4, c5, _, _, _, _, _, _⟩ := HA2
        obtain ⟨e0, e1, e2, e3, e4, e5, _, _, _, _, _, _⟩ := HB2
        have hnq := neq_tok z
        have hgd := guard_tok
        go_wp2
        go_roundw
        case rel => exact ⟨j + 1, by omega, by go_num, hbw5⟩
        case measure => simp [intOf]; omega
    · go_wp2
      go_ret
      exact ⟨rfl, hbw⟩
end Go.Proofs.YtajbjbnfklllkaaGreatDoor
