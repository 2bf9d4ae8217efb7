/- Texts that the others lean on. -/
import Derived.BigQuiet
import Derived.Test.YteankdaegdhfiaaGreatDoorKML
import Derived.Test.YteankdaegdhfiaaGreatDoorKMP
namespace Go.Proofs.YteankdaegdhfiaaGreatDoor
open Go.RowKit
theorem neq_num0 (o : Bool) (n : Int) (w : World) : (binOp .neq 24 (.agg #[.bool o, .int .i64 n]) (.agg #[.bool o, .int .i64 n])).run Tryz.prog w = .ok (.bool false) w := by
 rw [run_neq_struct, eqIn_num]
 unfold nEq
 simp
theorem guardn_num (x y : Operand) (xs ys : Array Value) (w : World) : (eqGuard .neq 24 x y (.agg xs) (.agg ys)).run Tryz.prog w = .ok () w := run_eqGuard_agg w .neq 24 x y xs ys guard24
theorem neq_mt0 (a b c : Value) (x : Mt) (ha : a = tx x.name) (hb : b = .int .i64 x.kind) (hc : c = tx x.text) (w : World) : (binOp .neq 87 (.agg #[a, b, c]) (.agg #[a, b, c])).run Tryz.prog w = .ok (.bool false) w := by
 subst ha hb hc
 have := neq_mt x x w
 rw [(mEq_iff x x).2 rfl] at this
 exact this
def RSameOK (P P' : Nat → Prop) (e : Ex) : Prop := Sm e → ∀ (w : World) (ca cb : Array Value), TrP P w e ca → TrP P' w e cb → Calls Tryz.prog 24 #[.agg ca, .agg cb] w fun x w' => x = .returned (.bool true) ∧ Below w.heap.size w w'
set_option maxHeartbeats 16000000 in
set_option maxRecDepth 200000 in
theorem rsame_ok {P P' : Nat → Prop} (e : Ex) : RSameOK P P' e := by
 refine Ex.ind (RSameOK P P') ?_ e
 intro e ih hs w ca cb ha hb
 obtain ⟨_, _, _, s4, s5, s6, s7⟩ := (Sm_eq e).1 hs
 obtain ⟨vm, vn, ao, cap, rfl, sm, sn, _, hkid⟩ := ha.parts
 obtain ⟨vm', vn', ao', cap', rfl, sm', sn', _, hkid'⟩ := hb.parts
 have SM : Hid _ := sm
 have SN : Hid _ := sn
 have SM' : Hid _ := sm'
 have SN' : Hid _ := sn'
 obtain ⟨am, cm, rfl, _⟩ := sm
 obtain ⟨an, cn, rfl, _⟩ := sn
 obtain ⟨am', cm', rfl, _⟩ := sm'
 obtain ⟨an', cn', rfl, _⟩ := sn'
 have HK : Hid _ := hkid
 have HK' : Hid _ := hkid'
 have HI : Hid _ := ih
 have HS : Hid (∀ x, x ∈ e.ks → Sm x) := s7
 have ng := fun W => neq_num0 e.o e.v W
 have gg := fun x y W => guardn_num x y #[.bool e.o, .int .i64 e.v] #[.bool e.o, .int .i64 e.v] W
 clear hkid hkid' ih ha hb hs s7
 obtain ⟨nm, HNM⟩ : ∃ n, Hid (e.m.length = n) := ⟨_, rfl⟩
 obtain ⟨nn, HNN⟩ : ∃ n, Hid (e.ns.length = n) := ⟨_, rfl⟩
 obtain ⟨nk, HNK⟩ : ∃ n, Hid (e.ks.length = n) := ⟨_, rfl⟩
 have SMm : Hid (SlP P w (.slice am nm cm) e.m.length (cellsM e.m)) := by have := SM.out; rw [HNM.out] at this ⊢; exact this
 have SMm' : Hid (SlP P' w (.slice am' nm cm') e.m.length (cellsM e.m)) := by have := SM'.out; rw [HNM.out] at this ⊢; exact this
 have SNn : Hid (SlP P w (.slice an nn cn) e.ns.length (e.ns.map tx)) := by have := SN.out; rw [HNN.out] at this ⊢; exact this
 have SNn' : Hid (SlP P' w (.slice an' nn cn') e.ns.length (e.ns.map tx)) := by have := SN'.out; rw [HNN.out] at this ⊢; exact this
 rw [HNM.out, HNN.out, HNK.out]
 rw [HNM.out] at s4
 rw [HNN.out] at s5
 rw [HNK.out] at s6
 clear SM SM' SN SN'
 have a1 := bal (Below.refl w.heap.size w) (.cells (exA e.k e.p e.o e.v e.s (.slice am nm cm) e.r e.b1 e.b2 e.b3 e.b4 (.slice an nn cn) (.slice ao nk cap)) 29)
 have B2 := bal a1 (.cells (exA e.k e.p e.o e.v e.s (.slice am' nm cm') e.r e.b1 e.b2 e.b3 e.b4 (.slice an' nn cn') (.slice ao' nk cap')) 29)
 have qa := below_heap (bal (Below.refl (w.alloc (.cells (exA e.k e.p e.o e.v e.s (.slice am nm cm) e.r e.b1 e.b2 e.b3 e.b4 (.slice an nn cn) (.slice ao nk cap)) 29)).heap.size (w.alloc (.cells (exA e.k e.p e.o e.v e.s (.slice am nm cm) e.r e.b1 e.b2 e.b3 e.b4 (.slice an nn cn) (.slice ao nk cap)) 29))) (.cells (exA e.k e.p e.o e.v e.s (.slice am' nm cm') e.r e.b1 e.b2 e.b3 e.b4 (.slice an' nn cn') (.slice ao' nk cap')) 29)) (heap_new w (.cells (exA e.k e.p e.o e.v e.s (.slice am nm cm) e.r e.b1 e.b2 e.b3 e.b4 (.slice an nn cn) (.slice ao nk cap)) 29))
 have qb : ((w.alloc (.cells (exA e.k e.p e.o e.v e.s (.slice am nm cm) e.r e.b1 e.b2 e.b3 e.b4 (.slice an nn cn) (.slice ao nk cap)) 29)).alloc (.cells (exA e.k e.p e.o e.v e.s (.slice am' nm cm') e.r e.b1 e.b2 e.b3 e.b4 (.slice an' nn cn') (.slice ao' nk cap')) 29)).heap[w.heap.size + 1]? = some (.cells (exA e.k e.p e.o e.v e.s (.slice am' nm cm') e.r e.b1 e.b2 e.b3 e.b4 (.slice an' nn cn') (.slice ao' nk cap')) 29) := by
  have h := heap_new (w.alloc (.cells (exA e.k e.p e.o e.v e.s (.slice am nm cm) e.r e.b1 e.b2 e.b3 e.b4 (.slice an nn cn) (.slice ao nk cap)) 29)) (.cells (exA e.k e.p e.o e.v e.s (.slice am' nm cm') e.r e.b1 e.b2 e.b3 e.b4 (.slice an' nn cn') (.slice ao' nk cap')) 29)
  rw [size_al] at h
  exact h
 clear a1
 go_enter Tryz.func24, Tryz.ntmps24
 go_upto_region 1 with fail
 generalize (w.alloc (.cells (exA e.k e.p e.o e.v e.s (.slice am nm cm) e.r e.b1 e.b2 e.b3 e.b4 (.slice an nn cn) (.slice ao nk cap)) 29)).alloc (.cells (exA e.k e.p e.o e.v e.s (.slice am' nm cm') e.r e.b1 e.b2 e.b3 e.b4 (.slice an' nn cn') (.slice ao' nk cap')) 29) = w2 at *
 have x0 := (cell_at qa 0).trans rfl
 have y0 := (cell_at qb 0).trans rfl
 have x1 := (cell_at qa 1).trans rfl
 have y1 := (cell_at qb 1).trans rfl
 have x2 := (cell_at qa 2).trans rfl
 have y2 := (cell_at qb 2).trans rfl
 have x3 := (cell_at qa 3).trans rfl
 have y3 := (cell_at qb 3).trans rfl
 have x4 := (cell_at qa 4).trans rfl
 have y4 := (cell_at qb 4).trans rfl
 have x5 := (cell_at qa 5).trans rfl
 have y5 := (cell_at qb 5).trans rfl
 have x6 := (cell_at qa 6).trans rfl
 have y6 := (cell_at qb 6).trans rfl
 have x7 := (cell_at qa 7).trans rfl
 have y7 := (cell_at qb 7).trans rfl
 have x8 := (cell_at qa 8).trans rfl
 have y8 := (cell_at qb 8).trans rfl
 have x9 := (cell_at qa 9).trans rfl
 have y9 := (cell_at qb 9).trans rfl
 have x10 := (cell_at qa 10).trans rfl
 have y10 := (cell_at qb 10).trans rfl
 have x11 := (cell_at qa 11).trans rfl
 have y11 := (cell_at qb 11).trans rfl
 have x12 := (cell_at qa 12).trans rfl
 have y12 := (cell_at qb 12).trans rfl
 go_wp2_with fail
 clear x0 y0 x1 y1 x2 y2 x3 y3 x4 y4 x5 y5 x6 y6 x7 y7 x8 y8 x9 y9 x10 y10 x11 y11 x12 y12 ng gg
 go_loopw [5] (fun i wr => ∃ j : Nat, j ≤ nm ∧ i = .int .i64 j ∧ Below w2.heap.size w2 wr) (fun i _ => nm - (intOf i).toNat)
 case atStart => exact ⟨0, by omega, rfl, Below.refl _ _⟩
 case round =>
  obtain ⟨j, hj, rfl, C⟩ := hrel
  have BC := B2.trans (C.mono B2.size)
  have x5 := (cell_at (below_heap C qa) 5).trans rfl
  have y5 := (cell_at (below_heap C qb) 5).trans rfl
  by_cases hlt : j < nm
  ·
   have hlt' : (j : Int) < nm := by omega
   obtain ⟨b, off, rfl, c0, c1, c2⟩ := (SlP.mats (SlP.later SMm.out BC)).2.2 j hlt
   obtain ⟨b', off', rfl, d0, d1, d2⟩ := (SlP.mats (SlP.later SMm'.out BC)).2.2 j hlt
   have nq := fun W => neq_mt0 _ _ _ (e.m.getD j ⟨[], 0, []⟩) rfl rfl rfl W
   have gq := fun x y xs ys W => guard_mt x y xs ys W
   generalize e.m.getD j ⟨[], 0, []⟩ = x at *
   go_wp2_with fail
   go_quiet (fail)
   go_wp2
   go_roundw
   case rel => exact ⟨j + 1, by omega, by go_num, below_drewN C _⟩
   case measure => simp [intOf]; omega
  ·
   have hlt' : ¬ (j : Int) < nm := by omega
   go_wp2_with fail
   go_loopw [6] (fun i wr => ∃ j : Nat, j ≤ nn ∧ i = .int .i64 j ∧ Below w2.heap.size w2 wr) (fun i _ => nn - (intOf i).toNat)
   case atStart => exact ⟨0, by omega, rfl, C⟩
   case round =>
    clear C BC x5 y5
    obtain ⟨j, hj, rfl, C⟩ := hrel
    have BC := B2.trans (C.mono B2.size)
    have x11 := (cell_at (below_heap C qa) 11).trans rfl
    have y11 := (cell_at (below_heap C qb) 11).trans rfl
    by_cases hlt : j < nn
    ·
     have hlt' : (j : Int) < nn := by omega
     obtain ⟨b, off, rfl, c0⟩ := (SlP.strs (SlP.later SNn.out BC)).2.2 j hlt
     obtain ⟨b', off', rfl, d0⟩ := (SlP.strs (SlP.later SNn'.out BC)).2.2 j hlt
     generalize e.ns.getD j [] = x at *
     go_wp2_with fail
     go_quiet (fail)
     go_wp2
     go_roundw
     case rel => exact ⟨j + 1, by omega, by go_num, below_drewN C _⟩
     case measure => simp [intOf]; omega
    ·
     have hlt' : ¬ (j : Int) < nn := by omega
     go_wp2_with fail
     go_loopw [7] (fun i wr => ∃ j : Nat, j ≤ nk ∧ i = .int .i64 j ∧ Below w2.heap.size w2 wr) (fun i _ => nk - (intOf i).toNat)
     case atStart => exact ⟨0, by omega, rfl, C⟩
     case round =>
      clear C BC x11 y11
      obtain ⟨j, hj, rfl, C⟩ := hrel
      have BC := B2.trans (C.mono B2.size)
      have x12 := (cell_at (below_heap C qa) 12).trans rfl
      have y12 := (cell_at (below_heap C qb) 12).trans rfl
      by_cases hlt : j < nk
      ·
       have hlt' : (j : Int) < nk := by omega
       obtain ⟨x, hx⟩ : ∃ x, e.ks[j]? = some x := ⟨_, List.getElem?_eq_getElem (by have := HNK.out; omega)⟩
       obtain ⟨b, off, ci, ea, kd⟩ := HK.out j x hx
       obtain ⟨b', off', ci', ea', kd'⟩ := HK'.out j x hx
       subst ea ea'
       have hrec := fun W (hW : Below w.heap.size w W) => HI.out x (List.mem_of_getElem? hx) (HS.out x (List.mem_of_getElem? hx)) W ci ci' (TrP.later kd.t hW) (TrP.later kd'.t hW)
       have na := kd.t.row.1
       have na' := kd'.t.row.1
       have ra := fun W (hW : Below w.heap.size w W) => (kd.later hW).r
       have ra' := fun W (hW : Below w.heap.size w W) => (kd'.later hW).r
       clear HK HK' HI hx kd kd'
       go_upto_region 16 with fail
       refine wp_region_noPanic ?_
       refine wp_region_held_drew (S := fun W => Below w2.heap.size w2 W) (by kernel_rfl) ?_ (fun _ => ?_)
       ·
        exact C.trans (drew_below wr |>.mono C.size)
       have C0 : Below w2.heap.size w2 wr.drew := C.trans ((drew_below wr).mono C.size)
       generalize wr.drew = w3 at *
       refine tk 0 132 (.pointer (some ⟨w.heap.size, 12, none⟩)) rfl (fun W hSw => by go_simp) C0 ?_
       simp only [Act.put, pB, pC, pD]
       refine tk 1 133 (.slice (some ⟨b, off, none⟩) nk cap) rfl (fun W hSw => by (have hk := (cell_at (below_heap hSw qa) 12).trans rfl; go_simp)) C0 ?_
       simp only [Act.put, pB, pC, pD]
       refine tk 2 134 (.int .i64 j) rfl (fun W hSw => by go_simp) C0 ?_
       simp only [Act.put, pB, pC, pD]
       refine tk 3 135 (.pointer (some ⟨b, off + j * 13, none⟩)) rfl (fun W hSw => by go_simp) C0 ?_
       simp only [Act.put, pB, pC, pD]
       refine tk 4 136 (.agg ci) rfl (fun W hSw => by exact exec_getm _ rfl b (off + j * 13) ci rfl W (ra _ (B2.trans (hSw.mono B2.size))) na) C0 ?_
       simp only [Act.put, pB, pC, pD]
       refine tk 5 137 (.pointer (some ⟨w.heap.size + 1, 12, none⟩)) rfl (fun W hSw => by go_simp) C0 ?_
       simp only [Act.put, pB, pC, pD]
       refine tk 6 138 (.slice (some ⟨b', off', none⟩) nk cap') rfl (fun W hSw => by (have hk := (cell_at (below_heap hSw qb) 12).trans rfl; go_simp)) C0 ?_
       simp only [Act.put, pB, pC, pD]
       refine tk 7 139 (.int .i64 j) rfl (fun W hSw => by go_simp) C0 ?_
       simp only [Act.put, pB, pC, pD]
       refine tk 8 140 (.pointer (some ⟨b', off' + j * 13, none⟩)) rfl (fun W hSw => by go_simp) C0 ?_
       simp only [Act.put, pB, pC, pD]
       refine tk 9 141 (.agg ci') rfl (fun W hSw => by exact exec_getm _ rfl b' (off' + j * 13) ci' rfl W (ra' _ (B2.trans (hSw.mono B2.size))) na') C0 ?_
       simp only [Act.put, pB, pC, pD]
       refine wpAnyH_ready (rs := [10]) (by kernel_rfl) (by simp) ?_
       refine AllReadyH.cons rfl (fun K hK => ?_) AllReadyH.nil
       go_simp
       refine (hrec _ (B2.trans (C0.mono B2.size))).mono ?_
       rintro xx w4 ⟨rfl, b4⟩
       have C2 : Below w2.heap.size w2 w4 := C0.trans (b4.mono C0.size)
       refine hK.out _ _ ?_ (fun _ => ?_)
       ·
        exact C2
       clear hK K
       refine tk 11 143 (.bool false) rfl (fun W hSw => by go_simp) C2 ?_
       simp only [Act.put, pB, pC, pD]
       refine wpAnyH_done (by kernel_rfl) ?_ _
       refine NoPanic.normal ?_
       go_wp2
       go_roundw
       case rel => exact ⟨j + 1, by omega, by go_num, C2⟩
       case measure => simp [intOf]; omega
      ·
       have hlt' : ¬ (j : Int) < nk := by omega
       clear HK HK' HI
       go_wp2_with fail
       go_ret
       exact ⟨rfl, BC⟩
end Go.Proofs.YteankdaegdhfiaaGreatDoor
