/- Cmp: for every argument. -/
import Derived.Test.YthcakiibkocheaaSum
namespace Go.Proofs.Ythcakiibkocheaa
open Go.RowKit

set_option maxHeartbeats 1000000 in
theorem cmp_any (o p : Bool) (n m : Int) (w : World) (hn : R64 n) (hm : R64 m) : Calls Try.prog 47 #[.agg #[.bool o, .int .i64 n], .agg #[.bool p, .int .i64 m]] w fun e w' => e = .returned (.int .i64 (fCmp (cnt o n) (cnt p m))) ∧ Below w.heap.size w w' := by
  obtain ⟨hx, hy, hb⟩ := boxes2 w o p n m
  generalize hX : cnt o n = x
  generalize hY : cnt p m = y
  go_enter Try.func47, Try.ntmps47
  go_wp2_with fail
  generalize (w.alloc (.cells #[.bool o, .int .i64 n] 28)).alloc (.cells #[.bool p, .int .i64 m] 28) = w1 at *
  have B2 : Below w1.heap.size w1 w1.drew := (Below.refl _ _).drew
  refine region_mid (fun a' W => a' = { tmps := #[Value.agg #[.bool o, .int .i64 n], Value.agg #[.bool p, .int .i64 m], Value.pointer (some ⟨w.heap.size, 0, none⟩), Value.pointer (some ⟨w.heap.size + 1, 0, none⟩), .int .i64 0, Value.agg #[.bool o, .int .i64 n], Value.agg #[.bool (ov x), .int .i64 (nn x)], Value.agg #[.bool p, .int .i64 m], Value.agg #[.bool (ov y), .int .i64 (nn y)], undef, undef, undef, undef, undef, undef, undef, undef, undef, undef, undef, undef, undef, undef, undef, undef, undef, undef, undef], defers := [] } ∧ Box W w.heap.size (ov x) (nn x) ∧ Box W (w.heap.size + 1) (ov y) (nn y) ∧ Below w.heap.size w W) ?_ ?_
  · refine wp_region_noPanic ?_
    refine wp_region_held_drew (S := fun _ => True) (by kernel_rfl) ?_ (fun _ => ?_)
    · exact trivial
    refine wpAnyH_ready (rs := [0, 2]) (by kernel_rfl) (by simp) ?_
    refine AllReadyH.cons rfl (fun K hK => ?_) (AllReadyH.cons rfl (fun K hK => ?_) AllReadyH.nil)
    · have c0 := (hx.later B2).c0
      have c1 := (hx.later B2).c1
      go_simp
      refine hK.out _ _ ?_ (fun _ => ?_)
      · exact trivial
      clear hK K
      clear c0 c1
      refine wpAnyH_ready (rs := [1, 2]) (by kernel_rfl) (by simp) ?_
      refine AllReadyH.cons rfl (fun K hK => ?_) (AllReadyH.cons rfl (fun K hK => ?_) AllReadyH.nil)
      · go_simp
        refine (counted_any o n _ hn.1).mono ?_
        rintro e w2 ⟨rfl, hg2⟩
        rw [hX]
        have g2 := Below.chain B2 hg2
        refine hK.out _ _ ?_ (fun _ => ?_)
        · exact trivial
        clear hK K
        refine wpAnyH_ready (rs := [2]) (by kernel_rfl) (by simp) ?_
        refine AllReadyH.cons rfl (fun K hK => ?_) AllReadyH.nil
        have c0 := (hy.later g2).c0
        have c1 := (hy.later g2).c1
        go_simp
        refine hK.out _ _ ?_ (fun _ => ?_)
        · exact trivial
        clear hK K
        clear c0 c1
        refine wpAnyH_ready (rs := [3]) (by kernel_rfl) (by simp) ?_
        refine AllReadyH.cons rfl (fun K hK => ?_) AllReadyH.nil
        go_simp
        refine (counted_any p m _ hm.1).mono ?_
        rintro e w3 ⟨rfl, hg3⟩
        rw [hY]
        have g3 := Below.chain g2 hg3
        refine hK.out _ _ ?_ (fun _ => ?_)
        · exact trivial
        clear hK K
        have hx4 := (hx.later g3).put (p := ov x) (m := nn x)
        have hy4 := (hy.later g3).put_other (a := w.heap.size) (p := ov x) (m := nn x) (by omega)
        have hb4 := put2 (Below.chain hb g3) (b := w.heap.size) (by omega) (ov x) (nn x)
        have hx3 := hx.later g3
        have c0 := hx3.c0
        have c1 := hx3.c1
        have f0 := hx3.f0
        have f1 := hx3.f1
        refine wpAnyH_ready (rs := [4]) (by kernel_rfl) (by simp) ?_
        refine AllReadyH.cons rfl (fun K hK => ?_) AllReadyH.nil
        go_simp
        refine hK.out _ _ ?_ (fun _ => ?_)
        · exact trivial
        clear hK K
        clear c0 c1 f0 f1
        have hx5 := hx4.put_other (a := w.heap.size + 1) (p := ov y) (m := nn y) (by omega)
        have hy5 := hy4.put (p := ov y) (m := nn y)
        have hb5 := put2 hb4 (b := w.heap.size + 1) (by omega) (ov y) (nn y)
        have c0 := hy4.c0
        have c1 := hy4.c1
        have f0 := hy4.f0
        have f1 := hy4.f1
        refine wpAnyH_ready (rs := [5]) (by kernel_rfl) (by simp) ?_
        refine AllReadyH.cons rfl (fun K hK => ?_) AllReadyH.nil
        go_simp
        refine hK.out _ _ ?_ (fun _ => ?_)
        · exact trivial
        clear hK K
        clear c0 c1 f0 f1
        refine wpAnyH_done (by kernel_rfl) ?_ _
        refine NoPanic.normal ?_
        exact ⟨rfl, hx5, hy5, hb5⟩
      · have c0 := (hy.later B2).c0
        have c1 := (hy.later B2).c1
        go_simp
        refine hK.out _ _ ?_ (fun _ => ?_)
        · exact trivial
        clear hK K
        clear c0 c1
        refine wpAnyH_ready (rs := [1]) (by kernel_rfl) (by simp) ?_
        refine AllReadyH.cons rfl (fun K hK => ?_) AllReadyH.nil
        go_simp
        refine (counted_any o n _ hn.1).mono ?_
        rintro e w2 ⟨rfl, hg2⟩
        rw [hX]
        have g2 := Below.chain B2 hg2
        refine hK.out _ _ ?_ (fun _ => ?_)
        · exact trivial
        clear hK K
        refine wpAnyH_ready (rs := [3]) (by kernel_rfl) (by simp) ?_
        refine AllReadyH.cons rfl (fun K hK => ?_) AllReadyH.nil
        go_simp
        refine (counted_any p m _ hm.1).mono ?_
        rintro e w3 ⟨rfl, hg3⟩
        rw [hY]
        have g3 := Below.chain g2 hg3
        refine hK.out _ _ ?_ (fun _ => ?_)
        · exact trivial
        clear hK K
        have hx4 := (hx.later g3).put (p := ov x) (m := nn x)
        have hy4 := (hy.later g3).put_other (a := w.heap.size) (p := ov x) (m := nn x) (by omega)
        have hb4 := put2 (Below.chain hb g3) (b := w.heap.size) (by omega) (ov x) (nn x)
        have hx3 := hx.later g3
        have c0 := hx3.c0
        have c1 := hx3.c1
        have f0 := hx3.f0
        have f1 := hx3.f1
        refine wpAnyH_ready (rs := [4]) (by kernel_rfl) (by simp) ?_
        refine AllReadyH.cons rfl (fun K hK => ?_) AllReadyH.nil
        go_simp
        refine hK.out _ _ ?_ (fun _ => ?_)
        · exact trivial
        clear hK K
        clear c0 c1 f0 f1
        have hx5 := hx4.put_other (a := w.heap.size + 1) (p := ov y) (m := nn y) (by omega)
        have hy5 := hy4.put (p := ov y) (m := nn y)
        have hb5 := put2 hb4 (b := w.heap.size + 1) (by omega) (ov y) (nn y)
        have c0 := hy4.c0
        have c1 := hy4.c1
        have f0 := hy4.f0
        have f1 := hy4.f1
        refine wpAnyH_ready (rs := [5]) (by kernel_rfl) (by simp) ?_
        refine AllReadyH.cons rfl (fun K hK => ?_) AllReadyH.nil
        go_simp
        refine hK.out _ _ ?_ (fun _ => ?_)
        · exact trivial
        clear hK K
        clear c0 c1 f0 f1
        refine wpAnyH_done (by kernel_rfl) ?_ _
        refine NoPanic.normal ?_
        exact ⟨rfl, hx5, hy5, hb5⟩
    · have c0 := (hy.later B2).c0
      have c1 := (hy.later B2).c1
      go_simp
      refine hK.out _ _ ?_ (fun _ => ?_)
      · exact trivial
      clear hK K
      clear c0 c1
      refine wpAnyH_ready (rs := [0]) (by kernel_rfl) (by simp) ?_
      refine AllReadyH.cons rfl (fun K hK => ?_) AllReadyH.nil
      have c0 := (hx.later B2).c0
      have c1 := (hx.later B2).c1
      go_simp
      refine hK.out _ _ ?_ (fun _ => ?_)
      · exact trivial
      clear hK K
      clear c0 c1
      refine wpAnyH_ready (rs := [1]) (by kernel_rfl) (by simp) ?_
      refine AllReadyH.cons rfl (fun K hK => ?_) AllReadyH.nil
      go_simp
      refine (counted_any o n _ hn.1).mono ?_
      rintro e w2 ⟨rfl, hg2⟩
      rw [hX]
      have g2 := Below.chain B2 hg2
      refine hK.out _ _ ?_ (fun _ => ?_)
      · exact trivial
      clear hK K
      refine wpAnyH_ready (rs := [3]) (by kernel_rfl) (by simp) ?_
      refine AllReadyH.cons rfl (fun K hK => ?_) AllReadyH.nil
      go_simp
      refine (counted_any p m _ hm.1).mono ?_
      rintro e w3 ⟨rfl, hg3⟩
      rw [hY]
      have g3 := Below.chain g2 hg3
      refine hK.out _ _ ?_ (fun _ => ?_)
      · exact trivial
      clear hK K
      have hx4 := (hx.later g3).put (p := ov x) (m := nn x)
      have hy4 := (hy.later g3).put_other (a := w.heap.size) (p := ov x) (m := nn x) (by omega)
      have hb4 := put2 (Below.chain hb g3) (b := w.heap.size) (by omega) (ov x) (nn x)
      have hx3 := hx.later g3
      have c0 := hx3.c0
      have c1 := hx3.c1
      have f0 := hx3.f0
      have f1 := hx3.f1
      refine wpAnyH_ready (rs := [4]) (by kernel_rfl) (by simp) ?_
      refine AllReadyH.cons rfl (fun K hK => ?_) AllReadyH.nil
      go_simp
      refine hK.out _ _ ?_ (fun _ => ?_)
      · exact trivial
      clear hK K
      clear c0 c1 f0 f1
      have hx5 := hx4.put_other (a := w.heap.size + 1) (p := ov y) (m := nn y) (by omega)
      have hy5 := hy4.put (p := ov y) (m := nn y)
      have hb5 := put2 hb4 (b := w.heap.size + 1) (by omega) (ov y) (nn y)
      have c0 := hy4.c0
      have c1 := hy4.c1
      have f0 := hy4.f0
      have f1 := hy4.f1
      refine wpAnyH_ready (rs := [5]) (by kernel_rfl) (by simp) ?_
      refine AllReadyH.cons rfl (fun K hK => ?_) AllReadyH.nil
      go_simp
      refine hK.out _ _ ?_ (fun _ => ?_)
      · exact trivial
      clear hK K
      clear c0 c1 f0 f1
      refine wpAnyH_done (by kernel_rfl) ?_ _
      refine NoPanic.normal ?_
      exact ⟨rfl, hx5, hy5, hb5⟩
  · rintro _ W ⟨rfl, hx, hy, hb⟩
    cases x with
    | none =>
      cases y with
      | none =>
        obtain ⟨c0, c1, f0, f1⟩ := hx
        obtain ⟨d0, d1, g0, g1⟩ := hy
        go_wp2
        go_ret
        exact ⟨rfl, hb⟩
      | some b =>
        obtain ⟨c0, c1, f0, f1⟩ := hx
        obtain ⟨d0, d1, g0, g1⟩ := hy
        go_wp2
        go_ret
        exact ⟨rfl, hb⟩
    | some a =>
      cases y with
      | none =>
        obtain ⟨c0, c1, f0, f1⟩ := hx
        obtain ⟨d0, d1, g0, g1⟩ := hy
        go_wp2
        go_ret
        exact ⟨rfl, hb⟩
      | some b =>
        obtain ⟨c0, c1, f0, f1⟩ := hx
        obtain ⟨d0, d1, g0, g1⟩ := hy
        simp only [nn, ov] at c0 c1 d0 d1 ⊢
        by_cases h : a = b
        · subst h
          go_wp2
          go_ret
          exact ⟨ret_int (by simp [fCmp]), hb⟩
        · by_cases h2 : b < a
          · go_wp2
            go_ret
            exact ⟨ret_int (by simp [fCmp, h, h2]), hb⟩
          · go_wp2
            go_ret
            exact ⟨ret_int (by simp [fCmp, h, h2]), hb⟩
end Go.Proofs.Ythcakiibkocheaa
