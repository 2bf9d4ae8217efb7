/- Texts that the others lean on. -/
import Derived.Test.YteankdaegdhfiaaGreatDoorKYRSame
namespace Go.Proofs.YteankdaegdhfiaaGreatDoor
open Go.RowKit
def RExOK (P P' : Nat → Prop) (e : Ex) : Prop := Sm e → ∀ (w : World) (ca cb : Array Value), TrP P w e ca → TrP P' w e cb → Calls Tryz.prog 15 #[.agg ca, .agg cb] w fun x w' => x = .returned (.bool true) ∧ Below w.heap.size w w'
set_option maxHeartbeats 16000000 in
set_option maxRecDepth 20000 in
theorem rexact_ok {P P' : Nat → Prop} (e : Ex) : RExOK P P' e := by
 refine Ex.ind (RExOK P P') ?_ e
 intro e ih hs w ca cb ha hb
 have hsm := fun W (hW : Below w.heap.size w W) => rsame_ok (P := P) (P' := P') e hs W ca cb (TrP.later ha hW) (TrP.later hb hW)
 obtain ⟨_, _, _, s4, s5, s6, s7⟩ := (Sm_eq e).1 hs
 obtain ⟨vm, vn, ao, cap, rfl, sm, sn, _, hkid⟩ := ha.parts
 obtain ⟨vm', vn', ao', cap', rfl, sm', sn', _, hkid'⟩ := hb.parts
 obtain ⟨am, cm, rfl, _⟩ := sm
 obtain ⟨an, cn, rfl, _⟩ := sn
 obtain ⟨am', cm', rfl, _⟩ := sm'
 obtain ⟨an', cn', rfl, _⟩ := sn'
 have HK : Hid _ := hkid
 have HK' : Hid _ := hkid'
 have HI : Hid _ := ih
 have HS : Hid (∀ x, x ∈ e.ks → Sm x) := s7
 clear hkid hkid' ih ha hb hs s7 s4 s5
 obtain ⟨nk, HNK⟩ : ∃ n, Hid (e.ks.length = n) := ⟨_, rfl⟩
 generalize e.m.length = nm at *
 generalize e.ns.length = nn at *
 rw [HNK.out] at hsm s6 ⊢
 have a1 := bal (Below.refl w.heap.size w) (.cells (exA e.k e.p e.o e.v e.s (.slice am nm cm) e.r e.b1 e.b2 e.b3 e.b4 (.slice an nn cn) (.slice ao nk cap)) 29)
 have B2 := bal a1 (.cells (exA e.k e.p e.o e.v e.s (.slice am' nm cm') e.r e.b1 e.b2 e.b3 e.b4 (.slice an' nn cn') (.slice ao' nk cap')) 29)
 have qa := below_heap (bal (Below.refl (w.alloc (.cells (exA e.k e.p e.o e.v e.s (.slice am nm cm) e.r e.b1 e.b2 e.b3 e.b4 (.slice an nn cn) (.slice ao nk cap)) 29)).heap.size (w.alloc (.cells (exA e.k e.p e.o e.v e.s (.slice am nm cm) e.r e.b1 e.b2 e.b3 e.b4 (.slice an nn cn) (.slice ao nk cap)) 29))) (.cells (exA e.k e.p e.o e.v e.s (.slice am' nm cm') e.r e.b1 e.b2 e.b3 e.b4 (.slice an' nn cn') (.slice ao' nk cap')) 29)) (heap_new w (.cells (exA e.k e.p e.o e.v e.s (.slice am nm cm) e.r e.b1 e.b2 e.b3 e.b4 (.slice an nn cn) (.slice ao nk cap)) 29))
 have qb : ((w.alloc (.cells (exA e.k e.p e.o e.v e.s (.slice am nm cm) e.r e.b1 e.b2 e.b3 e.b4 (.slice an nn cn) (.slice ao nk cap)) 29)).alloc (.cells (exA e.k e.p e.o e.v e.s (.slice am' nm cm') e.r e.b1 e.b2 e.b3 e.b4 (.slice an' nn cn') (.slice ao' nk cap')) 29)).heap[w.heap.size + 1]? = some (.cells (exA e.k e.p e.o e.v e.s (.slice am' nm cm') e.r e.b1 e.b2 e.b3 e.b4 (.slice an' nn cn') (.slice ao' nk cap')) 29) := by
  have h := heap_new (w.alloc (.cells (exA e.k e.p e.o e.v e.s (.slice am nm cm) e.r e.b1 e.b2 e.b3 e.b4 (.slice an nn cn) (.slice ao nk cap)) 29)) (.cells (exA e.k e.p e.o e.v e.s (.slice am' nm cm') e.r e.b1 e.b2 e.b3 e.b4 (.slice an' nn cn') (.slice ao' nk cap')) 29)
  rw [size_al] at h
  exact h
 clear a1
 go_enter Tryz.func15, Tryz.ntmps15
 go_upto_region 1 with fail
 generalize (w.alloc (.cells (exA e.k e.p e.o e.v e.s (.slice am nm cm) e.r e.b1 e.b2 e.b3 e.b4 (.slice an nn cn) (.slice ao nk cap)) 29)).alloc (.cells (exA e.k e.p e.o e.v e.s (.slice am' nm cm') e.r e.b1 e.b2 e.b3 e.b4 (.slice an' nn cn') (.slice ao' nk cap')) 29) = w2 at *
 go_wp2_with (first | (refine wp_get rfl 29 _ rfl w.heap.size (exA e.k e.p e.o e.v e.s (.slice am nm cm) e.r e.b1 e.b2 e.b3 e.b4 (.slice an nn cn) (.slice ao nk cap)) 29 rfl qa _ Tryz.underlying29 rfl 13 inf29 rfl ?_) | (refine wp_get rfl 29 _ rfl (w.heap.size + 1) (exA e.k e.p e.o e.v e.s (.slice am' nm cm') e.r e.b1 e.b2 e.b3 e.b4 (.slice an' nn cn') (.slice ao' nk cap')) 29 rfl qb _ Tryz.underlying29 rfl 13 inf29 rfl ?_))
 refine (hsm _ B2).mono ?_
 rintro xx w5 ⟨rfl, b5⟩
 have C5 : Below w2.heap.size w2 w5 := b5
 have x1 := (cell_at (below_heap C5 qa) 1).trans rfl
 have y1 := (cell_at (below_heap C5 qb) 1).trans rfl
 clear hsm
 go_wp2_with fail
 go_loopw [5] (fun i wr => ∃ j : Nat, j ≤ nk ∧ i = .int .i64 j ∧ Below w2.heap.size w2 wr) (fun i _ => nk - (intOf i).toNat)
 case atStart => exact ⟨0, by omega, rfl, C5⟩
 case round =>
  clear C5 x1 y1 b5
  obtain ⟨j, hj, rfl, C⟩ := hrel
  have BC := B2.trans (C.mono B2.size)
  have x12 := (cell_at (below_heap C qa) 12).trans rfl
  have y12 := (cell_at (below_heap C qb) 12).trans rfl
  by_cases hlt : j < nk
  ·
   have hlt' : (j : Int) < nk := by omega
   obtain ⟨x, hx⟩ : ∃ x, e.ks[j]? = some x := ⟨_, List.getElem?_eq_getElem (by have := HNK.out; omega)⟩
   obtain ⟨b, off, ci, ea, kd⟩ := HK.out j x hx
   obtain ⟨b', off', ci', ea', kd'⟩ := HK'.out j x hx
   subst ea ea'
   have hrec := fun W (hW : Below w.heap.size w W) => HI.out x (List.mem_of_getElem? hx) (HS.out x (List.mem_of_getElem? hx)) W ci ci' (TrP.later kd.t hW) (TrP.later kd'.t hW)
   have na := kd.t.row.1
   have na' := kd'.t.row.1
   have ra := fun W (hW : Below w.heap.size w W) => (kd.later hW).r
   have ra' := fun W (hW : Below w.heap.size w W) => (kd'.later hW).r
   clear HK HK' HI hx kd kd'
   go_upto_region 6 with fail
   refine wp_region_noPanic ?_
   refine wp_region_held_drew (S := fun W => Below w2.heap.size w2 W) (by kernel_rfl) ?_ (fun _ => ?_)
   ·
    exact C.trans (drew_below wr |>.mono C.size)
   have C0 : Below w2.heap.size w2 wr.drew := C.trans ((drew_below wr).mono C.size)
   generalize wr.drew = w3 at *
   refine tk 0 24 (.pointer (some ⟨w.heap.size, 12, none⟩)) rfl (fun W hSw => by go_simp) C0 ?_
   simp only [Act.put, pB, pC, pD]
   refine tk 1 25 (.slice (some ⟨b, off, none⟩) nk cap) rfl (fun W hSw => by (have hk := (cell_at (below_heap hSw qa) 12).trans rfl; go_simp)) C0 ?_
   simp only [Act.put, pB, pC, pD]
   refine tk 2 26 (.int .i64 j) rfl (fun W hSw => by go_simp) C0 ?_
   simp only [Act.put, pB, pC, pD]
   refine tk 3 27 (.pointer (some ⟨b, off + j * 13, none⟩)) rfl (fun W hSw => by go_simp) C0 ?_
   simp only [Act.put, pB, pC, pD]
   refine tk 4 28 (.agg ci) rfl (fun W hSw => by exact exec_getm _ rfl b (off + j * 13) ci rfl W (ra _ (B2.trans (hSw.mono B2.size))) na) C0 ?_
   simp only [Act.put, pB, pC, pD]
   refine tk 5 29 (.pointer (some ⟨w.heap.size + 1, 12, none⟩)) rfl (fun W hSw => by go_simp) C0 ?_
   simp only [Act.put, pB, pC, pD]
   refine tk 6 30 (.slice (some ⟨b', off', none⟩) nk cap') rfl (fun W hSw => by (have hk := (cell_at (below_heap hSw qb) 12).trans rfl; go_simp)) C0 ?_
   simp only [Act.put, pB, pC, pD]
   refine tk 7 31 (.int .i64 j) rfl (fun W hSw => by go_simp) C0 ?_
   simp only [Act.put, pB, pC, pD]
   refine tk 8 32 (.pointer (some ⟨b', off' + j * 13, none⟩)) rfl (fun W hSw => by go_simp) C0 ?_
   simp only [Act.put, pB, pC, pD]
   refine tk 9 33 (.agg ci') rfl (fun W hSw => by exact exec_getm _ rfl b' (off' + j * 13) ci' rfl W (ra' _ (B2.trans (hSw.mono B2.size))) na') C0 ?_
   simp only [Act.put, pB, pC, pD]
   refine wpAnyH_ready (rs := [10]) (by kernel_rfl) (by simp) ?_
   refine AllReadyH.cons rfl (fun K hK => ?_) AllReadyH.nil
   go_simp
   refine (hrec _ (B2.trans (C0.mono B2.size))).mono ?_
   rintro xx w4 ⟨rfl, b4⟩
   have C2 : Below w2.heap.size w2 w4 := C0.trans (b4.mono C0.size)
   refine hK.out _ _ ?_ (fun _ => ?_)
   ·
    exact C2
   clear hK K
   refine tk 11 35 (.bool false) rfl (fun W hSw => by go_simp) C2 ?_
   simp only [Act.put, pB, pC, pD]
   refine wpAnyH_done (by kernel_rfl) ?_ _
   refine NoPanic.normal ?_
   go_wp2
   go_roundw
   case rel => exact ⟨j + 1, by omega, by go_num, C2⟩
   case measure => simp [intOf]; omega
  ·
   have hlt' : ¬ (j : Int) < nk := by omega
   clear HK HK' HI
   go_wp2_with fail
   go_ret
   exact ⟨rfl, BC⟩
end Go.Proofs.YteankdaegdhfiaaGreatDoor
