/- PatternAll: all of none match; one that doesn't spoils it; like and unlike are opposite. -/
import Derived.Test.YtcalbghoacedhaaDoorMats
import Derived.Test.YtcalbghoacedhaaDoorTake
namespace Go.Proofs.YtcalbghoacedhaaDoor
open Go.RowKit

theorem region_mid {P : Program} {c : Code} {K : Act → World → Prop} {Q : Exit → Act → World → Prop} {a : Act} {w : World} (R : Act → World → Prop) (h1 : c.wp P (Exit.then R Q) a w) (h2 : ∀ a' w', R a' w' → K a' w') : c.wp P (Exit.then K Q) a w := by
  refine Code.wp_mono ?_ h1
  intro e a' w' h
  cases e <;> first | exact h2 _ _ h | exact h
theorem Ms.new (w : World) (m : Mat) : Ms (w.alloc (.cells #[tx m.name, .int .i64 m.kind, tx m.text] 26)) (some ⟨w.heap.size, 0, none⟩) 1 [m] := by
  have h := BoxM.new w m
  refine ⟨rfl, fun _ => ⟨_, 0, rfl, fun j hj => ?_⟩⟩
  obtain rfl : j = 0 := by omega
  exact ⟨h.c0, h.c1, h.c2⟩
/-- A matcher in a block of its own that can be written. -/
structure BoxF (w : World) (b : Nat) (m : Mat) : Prop where
  c0 : w.cell? ⟨b, 0, none⟩ = some (tx m.name)
  c1 : w.cell? ⟨b, 1, none⟩ = some (.int .i64 m.kind)
  c2 : w.cell? ⟨b, 2, none⟩ = some (tx m.text)
  f0 : w.frozen? ⟨b, 0, none⟩ = false
  f1 : w.frozen? ⟨b, 1, none⟩ = false
  f2 : w.frozen? ⟨b, 2, none⟩ = false
theorem BoxF.new (w : World) (m : Mat) : BoxF (w.alloc (.cells #[tx m.name, .int .i64 m.kind, tx m.text] 26)) w.heap.size m := by
  constructor <;> simp [go_sem]
theorem BoxF.later {w w' : World} {b : Nat} {m : Mat} (h : BoxF w b m) (hb : Below w.heap.size w w') : BoxF w' b m := by
  have hl : b < w.heap.size := World.block_lt_of_cell? _ _ h.c0
  exact ⟨(hb.cell (p := ⟨b, 0, none⟩) hl).trans h.c0, (hb.cell (p := ⟨b, 1, none⟩) hl).trans h.c1, (hb.cell (p := ⟨b, 2, none⟩) hl).trans h.c2, (hb.frozen (p := ⟨b, 0, none⟩) hl).trans h.f0, (hb.frozen (p := ⟨b, 1, none⟩) hl).trans h.f1, (hb.frozen (p := ⟨b, 2, none⟩) hl).trans h.f2⟩
theorem BoxF.box {w : World} {b : Nat} {m : Mat} (h : BoxF w b m) : BoxM w b m := ⟨h.c0, h.c1, h.c2⟩
theorem BoxF.new0 (w : World) : BoxF (w.alloc (.cells #[tx [], .int .i64 0, tx []] 26)) w.heap.size mat0 := BoxF.new w mat0
abbrev put3 (w : World) (b : Nat) (x : Mat) : World := ((w.setCell ⟨b, 0, none⟩ (tx x.name)).setCell ⟨b, 1, none⟩ (.int .i64 x.kind)).setCell ⟨b, 2, none⟩ (tx x.text)
theorem BoxF.ways {w : World} {b : Nat} {m : Mat} (h : BoxF w b m) (x : Mat) :
    (w.setCell ⟨b, 0, none⟩ (tx x.name)).cell? ⟨b, 1, none⟩ = some (.int .i64 m.kind) ∧ ((w.setCell ⟨b, 0, none⟩ (tx x.name)).setCell ⟨b, 1, none⟩ (.int .i64 x.kind)).cell? ⟨b, 2, none⟩ = some (tx m.text) := by
  refine ⟨?_, ?_⟩
  · rw [World.cell?_setCell_other _ _ _ _ (by intro e; cases e)]; exact h.c1
  · rw [World.cell?_setCell_other _ _ _ _ (by intro e; cases e), World.cell?_setCell_other _ _ _ _ (by intro e; cases e)]; exact h.c2
theorem BoxF.put3 {w : World} {b : Nat} {m : Mat} (h : BoxF w b m) (x : Mat) : BoxF (put3 w b x) b x := by
  obtain ⟨q1, q2⟩ := h.ways x
  constructor
  · rw [World.cell?_setCell_other _ _ _ _ (by intro e; cases e), World.cell?_setCell_other _ _ _ _ (by intro e; cases e)]
    exact World.cell?_setCell_same' _ _ _ (by rw [h.c0]; rfl)
  · rw [World.cell?_setCell_other _ _ _ _ (by intro e; cases e)]
    exact World.cell?_setCell_same' _ _ _ (by rw [q1]; rfl)
  · exact World.cell?_setCell_same' _ _ _ (by rw [q2]; rfl)
  · simpa using h.f0
  · simpa using h.f1
  · simpa using h.f2
theorem BoxF.far1 {w : World} {b b' : Nat} {m : Mat} (h : BoxF w b m) (hne : b' ≠ b) (o : Nat) (v : Value) : BoxF (w.setCell ⟨b', o, none⟩ v) b m := by
  constructor
  · rw [World.cell?_setCell_far _ _ _ _ hne]; exact h.c0
  · rw [World.cell?_setCell_far _ _ _ _ hne]; exact h.c1
  · rw [World.cell?_setCell_far _ _ _ _ hne]; exact h.c2
  · simpa using h.f0
  · simpa using h.f1
  · simpa using h.f2
theorem BoxF.far3 {w : World} {b b' : Nat} {m : Mat} (h : BoxF w b m) (hne : b' ≠ b) (x : Mat) : BoxF (Go.Proofs.YtcalbghoacedhaaDoor.put3 w b' x) b m := ((h.far1 hne 0 _).far1 hne 1 _).far1 hne 2 _
theorem BoxF.kind {w : World} {b : Nat} {m : Mat} (h : BoxF w b m) (k : Int) : BoxF (w.setCell ⟨b, 1, none⟩ (.int .i64 k)) b ⟨m.name, k, m.text⟩ := by
  constructor
  · rw [World.cell?_setCell_other _ _ _ _ (by intro e; cases e)]; exact h.c0
  · exact World.cell?_setCell_same' _ _ _ (by rw [h.c1]; rfl)
  · rw [World.cell?_setCell_other _ _ _ _ (by intro e; cases e)]; exact h.c2
  · simpa using h.f0
  · simpa using h.f1
  · simpa using h.f2
theorem below_put3 {B : Nat} {a w : World} {b : Nat} (h : Below B a w) (hb : B ≤ b) (x : Mat) : Below B a (put3 w b x) := ((h.setCell (p := ⟨b, 0, none⟩) hb _).setCell (p := ⟨b, 1, none⟩) hb _).setCell (p := ⟨b, 2, none⟩) hb _
theorem all_snoc2 (l : List Pr) (m : List Mat) (x : Mat) : fAll l (m ++ [x]) = (fAll l m && fAll l [x]) := by simp [fAll]
theorem fitM_one {x : Mat} (h : Big x.name ∧ Big x.text) : FitM [x] := by
  intro y hy
  rw [List.mem_singleton] at hy
  subst hy; exact h
theorem fitM_snoc {m : List Mat} {x : Mat} (h : Big x.name ∧ Big x.text) (hm : FitM m) : FitM (m ++ [x]) := by
  intro y hy
  rcases List.mem_append.1 hy with hy | hy
  · exact hm y hy
  · exact fitM_one h y hy
theorem OwnM.slice2 {w : World} {base : Nat} {v : Value} {l : List Mat} {N : Nat} (h : OwnM w base v l) (hN : l.length = N) : ∃ ao cap, v = .slice ao N cap ∧ Ms w ao N l := by
  obtain ⟨ao, cap, e, hm, _⟩ := h.slice
  rw [hN] at e hm
  exact ⟨ao, cap, e, hm⟩
theorem opposite (l : List Pr) (n t : Str) : fAll l [⟨n, 1, t⟩] = !fAll l [⟨n, 2, t⟩] := by simp [fAll, fOne]

set_option maxRecDepth 200000 in
set_option maxHeartbeats 4000000 in
theorem all_walk (ao : Option Addr) (n cap : Nat) (l : List Pr) (xo : Option Addr) (k c : Nat) (m : List Mat) (x : Mat) (w : World) (hn : n ≤ 9223372036854775807) (hk : k ≤ 9223372036854775807) (hx : Big x.name ∧ Big x.text) (hf : FitP l) (hg : FitM m) (hl : Ps w ao n l) (hm : Ms w xo k m) :
    Calls Tryd.prog 6 #[.slice ao n cap, .slice xo k c, .agg #[tx x.name, .int .i64 x.kind, tx x.text]] w fun e w' => e = .returned (.bool true) ∧ Below w.heap.size w w' := by
  have hxb := BoxM.new w x
  have hb0 : Below w.heap.size w (w.alloc (.cells #[tx x.name, .int .i64 x.kind, tx x.text] 26)) := bal (Below.refl _ _) _
  have hs5 : w.heap.size < (w.alloc (.cells #[tx x.name, .int .i64 x.kind, tx x.text] 26)).heap.size := World.block_lt_of_cell? _ _ hxb.c0
  go_enter Tryd.func6, Tryd.ntmps6
  go_wp2_with fail
  refine (known_any _).mono ?_
  rintro e w1 ⟨rfl, hb1⟩
  have HX1 := hxb.later hb1
  have B1 := Below.chain hb0 hb1
  clear hb0 hb1 hxb hs5
  have hc0 := HX1.c0
  have hc1 := HX1.c1
  have hc2 := HX1.c2
  by_cases h1 : n ≤ 12
  · have h1' : ¬ (12 : Int) < n := by omega
    by_cases h2 : k ≤ 10
    · have h2' : ¬ (10 : Int) < k := by omega
      by_cases h3 : x.text.length ≤ 100
      · have h3' : ¬ (100 : Int) < x.text.length := by omega
        go_wp2_with fail
        refine (all_any ao n cap l xo k c m _ hn hk (hl.later B1) (hm.later B1) hf hg).mono ?_
        rintro e w2 ⟨rfl, hb2⟩
        have HX := HX1.later hb2
        have B2 := Below.chain B1 hb2
        clear HX1 hc0 hc1 hc2 hb2 B1
        generalize w.heap.size = b5 at HX
        obtain ⟨mx, HMX⟩ : ∃ q, Hid (q = m ++ [x]) := ⟨_, rfl⟩
        have HML : Hid (mx.length = k + 1) := by show _ = _; rw [HMX.out, List.length_append, hm.1]; rfl
        have hgx : FitM mx := by rw [HMX.out]; exact fitM_snoc hx hg
        obtain ⟨N, HN⟩ : ∃ N, Hid (mx.length = N ∧ N ≤ 9223372036854775807) := ⟨_, rfl, by rw [HML.out]; omega⟩
        clear HML
        go_wp2_with fail
        obtain ⟨R6, hR6⟩ : ∃ R : Act → World → Prop, Hid (R = fun a' w' => ∃ u2 u3 u4 u6 u9 u10 u11 u12 u13 u14 u15 u16 u17 u18 u19 u20 u21 u22 u23 u24 u25 u26 u27 u28 u29 u30 u31 u32 u33 u34 u35 u36 u37 u38 u39 u40 u41 u42 u43 u44 u45 u46 u47 u48 u49 u50 u51 u52 u53 u54 u55 u56 u57 u58 u59 u60 u61 u62 u63 u64 : Value, a' = { tmps := #[.slice ao n cap, .slice xo k c, u2, u3, u4, .pointer (some ⟨b5, 0, none⟩), u6, .bool (fAll l m), .bool (fAll l mx), u9, u10, u11, u12, u13, u14, u15, u16, u17, u18, u19, u20, u21, u22, u23, u24, u25, u26, u27, u28, u29, u30, u31, u32, u33, u34, u35, u36, u37, u38, u39, u40, u41, u42, u43, u44, u45, u46, u47, u48, u49, u50, u51, u52, u53, u54, u55, u56, u57, u58, u59, u60, u61, u62, u63, u64], defers := [] } ∧ Below w2.heap.size w2 w') := ⟨_, rfl⟩
        refine region_mid R6 ?_ ?_
        · have C0 : Below w2.heap.size w2 w2.drew := (Below.refl _ _).drew
          refine wp_region_noPanic ?_
          refine wp_region_held_drew (S := fun W => Below w2.heap.size w2 W) (by kernel_rfl) ?_ (fun _ => ?_)
          · exact C0
          generalize w2.drew = wd at *
          refine take_at 0 (some 30) (.slice ao n cap) rfl rfl (by kernel_rfl) (by kernel_rfl) (by kernel_rfl) (fun _ _ _ h => h) (by rfl) (fun W hSw => by go_simp) C0 ?_
          simp only [Act.put, List.setIfInBounds_toArray, List.set_cons_zero, List.set_cons_succ]
          refine take_at 1 (some 31) (.slice xo k c) rfl rfl (by kernel_rfl) (by kernel_rfl) (by kernel_rfl) (fun _ _ _ h => h) (by rfl) (fun W hSw => by go_simp) C0 ?_
          simp only [Act.put, List.setIfInBounds_toArray, List.set_cons_zero, List.set_cons_succ]
          refine take_at 3 (some 33) (.agg #[tx x.name, .int .i64 x.kind, tx x.text]) rfl rfl (by kernel_rfl) (by kernel_rfl) (by kernel_rfl) (fun _ _ _ h => h) (by rfl) (fun W hSw => by have c0 := (HX.later hSw).c0; have c1 := (HX.later hSw).c1; have c2 := (HX.later hSw).c2; go_simp) C0 ?_
          simp only [Act.put, List.setIfInBounds_toArray, List.set_cons_zero, List.set_cons_succ]
          refine wpAnyH_ready (rs := [2, 4]) (by kernel_rfl) (by simp) ?_
          refine AllReadyH.cons rfl (fun K hK => ?_) (AllReadyH.cons rfl (fun K hK => ?_) AllReadyH.nil)
          · refine step_appM _ _ (some 32) rfl rfl (by rfl) wd.heap.size (.slice none 0 0) [] m xo k c rfl rfl (OwnM.nil _ _) ((hm.later B2).later C0) (Below.refl _ _) (Nat.le_refl _) (by simp; omega) ?_
            intro v1 y1 ho1 hy1 _
            rw [List.nil_append] at ho1
            have D1 := Below.chain C0 hy1
            refine hK.out _ _ ?_ (fun _ => ?_)
            · exact D1
            clear hK K
            refine wpAnyH_ready (rs := [4]) (by kernel_rfl) (by simp) ?_
            refine AllReadyH.cons rfl (fun K hK => ?_) AllReadyH.nil
            go_simp
            have hnew := Ms.new y1 x
            have D2 := bal D1 (.cells #[tx x.name, .int .i64 x.kind, tx x.text] 26)
            have E2 := bal hy1 (.cells #[tx x.name, .int .i64 x.kind, tx x.text] 26)
            have ho2 := ho1.later (bal (Below.refl _ _) (.cells #[tx x.name, .int .i64 x.kind, tx x.text] 26))
            refine hK.out _ _ ?_ (fun _ => ?_)
            · exact D2
            clear hK K
            refine wpAnyH_ready (rs := [5]) (by kernel_rfl) (by simp) ?_
            refine AllReadyH.cons rfl (fun K hK => ?_) AllReadyH.nil
            refine step_appM _ _ (some 35) rfl rfl (by rfl) wd.heap.size v1 m [x] (some ⟨y1.heap.size, 0, none⟩) 1 1 rfl rfl ho2 hnew E2 (Nat.le_refl _) (by rw [hm.1]; omega) ?_
            intro v2 y2 ho3 hy2 _
            rw [← HMX.out] at ho3
            obtain ⟨ao2, cap2, rfl, hms⟩ := ho3.slice2 HN.out.1
            have D3 := Below.chain C0 hy2
            refine hK.out _ _ ?_ (fun _ => ?_)
            · exact D3
            clear hK K
            refine wpAnyH_ready (rs := [6]) (by kernel_rfl) (by simp) ?_
            refine AllReadyH.cons rfl (fun K hK => ?_) AllReadyH.nil
            go_simp
            refine (all_any ao n cap l ao2 N cap2 mx _ hn HN.out.2 ((hl.later B2).later D3) hms hf hgx).mono ?_
            rintro e y4 ⟨rfl, hy4⟩
            have D4 := Below.chain D3 hy4
            refine hK.out _ _ ?_ (fun _ => ?_)
            · exact D4
            clear hK K
            refine take_at 7 (some 8) (.bool (fAll l mx)) rfl rfl (by kernel_rfl) (by kernel_rfl) (by kernel_rfl) (fun _ _ _ h => h) (by rfl) (fun W hSw => by go_simp) D4 ?_
            simp only [Act.put, List.setIfInBounds_toArray, List.set_cons_zero, List.set_cons_succ]
            refine wpAnyH_done (by kernel_rfl) ?_ _
            refine NoPanic.normal ?_
            show R6 _ _
            rw [hR6.out]
            exact ⟨_, _, _, _, _, _, _, _, _, _, _, _, _, _, _, _, _, _, _, _, _, _, _, _, _, _, _, _, _, _, _, _, _, _, _, _, _, _, _, _, _, _, _, _, _, _, _, _, _, _, _, _, _, _, _, _, _, _, _, _, rfl, D4⟩
          · go_simp
            have hnew := Ms.new wd x
            have D1 := bal C0 (.cells #[tx x.name, .int .i64 x.kind, tx x.text] 26)
            generalize wd.alloc (.cells #[tx x.name, .int .i64 x.kind, tx x.text] 26) = y1 at *
            refine hK.out _ _ ?_ (fun _ => ?_)
            · exact D1
            clear hK K
            refine wpAnyH_ready (rs := [2]) (by kernel_rfl) (by simp) ?_
            refine AllReadyH.cons rfl (fun K hK => ?_) AllReadyH.nil
            refine step_appM _ _ (some 32) rfl rfl (by rfl) y1.heap.size (.slice none 0 0) [] m xo k c rfl rfl (OwnM.nil _ _) ((hm.later B2).later D1) (Below.refl _ _) (Nat.le_refl _) (by simp; omega) ?_
            intro v1 y2 ho1 hy1 _
            rw [List.nil_append] at ho1
            have D2 := Below.chain D1 hy1
            refine hK.out _ _ ?_ (fun _ => ?_)
            · exact D2
            clear hK K
            refine wpAnyH_ready (rs := [5]) (by kernel_rfl) (by simp) ?_
            refine AllReadyH.cons rfl (fun K hK => ?_) AllReadyH.nil
            refine step_appM _ _ (some 35) rfl rfl (by rfl) y1.heap.size v1 m [x] (some ⟨wd.heap.size, 0, none⟩) 1 1 rfl rfl ho1 (hnew.later hy1) hy1 (Nat.le_refl _) (by rw [hm.1]; omega) ?_
            intro v2 y3 ho3 hy2 _
            rw [← HMX.out] at ho3
            obtain ⟨ao2, cap2, rfl, hms⟩ := ho3.slice2 HN.out.1
            have D3 := Below.chain D1 hy2
            refine hK.out _ _ ?_ (fun _ => ?_)
            · exact D3
            clear hK K
            refine wpAnyH_ready (rs := [6]) (by kernel_rfl) (by simp) ?_
            refine AllReadyH.cons rfl (fun K hK => ?_) AllReadyH.nil
            go_simp
            refine (all_any ao n cap l ao2 N cap2 mx _ hn HN.out.2 ((hl.later B2).later D3) hms hf hgx).mono ?_
            rintro e y4 ⟨rfl, hy4⟩
            have D4 := Below.chain D3 hy4
            refine hK.out _ _ ?_ (fun _ => ?_)
            · exact D4
            clear hK K
            refine take_at 7 (some 8) (.bool (fAll l mx)) rfl rfl (by kernel_rfl) (by kernel_rfl) (by kernel_rfl) (fun _ _ _ h => h) (by rfl) (fun W hSw => by go_simp) D4 ?_
            simp only [Act.put, List.setIfInBounds_toArray, List.set_cons_zero, List.set_cons_succ]
            refine wpAnyH_done (by kernel_rfl) ?_ _
            refine NoPanic.normal ?_
            show R6 _ _
            rw [hR6.out]
            exact ⟨_, _, _, _, _, _, _, _, _, _, _, _, _, _, _, _, _, _, _, _, _, _, _, _, _, _, _, _, _, _, _, _, _, _, _, _, _, _, _, _, _, _, _, _, _, _, _, _, _, _, _, _, _, _, _, _, _, _, _, _, rfl, D4⟩
        intro a' w3 h
        rw [hR6.out] at h
        obtain ⟨u2, u3, u4, u6, u9, u10, u11, u12, u13, u14, u15, u16, u17, u18, u19, u20, u21, u22, u23, u24, u25, u26, u27, u28, u29, u30, u31, u32, u33, u34, u35, u36, u37, u38, u39, u40, u41, u42, u43, u44, u45, u46, u47, u48, u49, u50, u51, u52, u53, u54, u55, u56, u57, u58, u59, u60, u61, u62, u63, u64, rfl, hb3⟩ := h
        clear hR6 R6
        have HX3 := HX.later hb3
        have B3 := Below.chain B2 hb3
        clear hb3 HX B2
        go_wp2_with fail
        obtain ⟨R7, hR7⟩ : ∃ R : Act → World → Prop, Hid (R = fun a' w' => ∃ b9 b10 : Nat, ∃ u2 u3 u4 u6 u11 u12 u13 u14 u15 u16 u17 u18 u19 u20 u21 u22 u23 u24 u25 u26 u27 u28 u29 u30 u31 u32 u33 u34 u35 u36 u37 u38 u39 u40 u41 u42 u43 u44 u45 u46 u47 u48 u49 u50 u51 u52 u53 u54 u55 u56 u57 u58 u59 u60 u61 u62 u63 u64 : Value, a' = { tmps := #[.slice ao n cap, .slice xo k c, u2, u3, u4, .pointer (some ⟨b5, 0, none⟩), u6, .bool (fAll l m), .bool (fAll l mx), .pointer (some ⟨b9, 0, none⟩), .pointer (some ⟨b10, 0, none⟩), u11, u12, u13, u14, u15, u16, u17, u18, u19, u20, u21, u22, u23, u24, u25, u26, u27, u28, u29, u30, u31, u32, u33, u34, u35, u36, u37, u38, u39, u40, u41, u42, u43, u44, u45, u46, u47, u48, u49, u50, u51, u52, u53, u54, u55, u56, u57, u58, u59, u60, u61, u62, u63, u64], defers := [] } ∧ BoxF w' b9 x ∧ BoxF w' b10 x ∧ b9 ≠ b10 ∧ w3.heap.size ≤ b9 ∧ w3.heap.size ≤ b10 ∧ Below w3.heap.size w3 w') := ⟨_, rfl⟩
        refine region_mid R7 ?_ ?_
        · have C0 : Below w3.heap.size w3 w3.drew := (Below.refl _ _).drew
          refine wp_region_noPanic ?_
          refine wp_region_held_drew (S := fun W => Below w3.heap.size w3 W) (by kernel_rfl) ?_ (fun _ => ?_)
          · exact C0
          generalize w3.drew = wd at *
          refine take_at 0 (some 37) (.agg #[tx x.name, .int .i64 x.kind, tx x.text]) rfl rfl (by kernel_rfl) (by kernel_rfl) (by kernel_rfl) (fun _ _ _ h => h) (by rfl) (fun W hSw => by have c0 := (HX3.later hSw).c0; have c1 := (HX3.later hSw).c1; have c2 := (HX3.later hSw).c2; go_simp) C0 ?_
          simp only [Act.put, List.setIfInBounds_toArray, List.set_cons_zero, List.set_cons_succ]
          refine take_at 1 (some 38) (.agg #[tx x.name, .int .i64 x.kind, tx x.text]) rfl rfl (by kernel_rfl) (by kernel_rfl) (by kernel_rfl) (fun _ _ _ h => h) (by rfl) (fun W hSw => by have c0 := (HX3.later hSw).c0; have c1 := (HX3.later hSw).c1; have c2 := (HX3.later hSw).c2; go_simp) C0 ?_
          simp only [Act.put, List.setIfInBounds_toArray, List.set_cons_zero, List.set_cons_succ]
          refine wpAnyH_ready (rs := [2, 3]) (by kernel_rfl) (by simp) ?_
          refine AllReadyH.cons rfl (fun K hK => ?_) (AllReadyH.cons rfl (fun K hK => ?_) AllReadyH.nil)
          · go_simp
            have D1 := bal C0 (.cells #[tx [], .int .i64 0, tx []] 26)
            have z1 := BoxF.new0 wd
            have zn1 := C0.size
            have zl1 : wd.heap.size < (wd.alloc (.cells #[tx [], .int .i64 0, tx []] 26)).heap.size := World.block_lt_of_cell? _ _ z1.c0
            generalize wd.alloc (.cells #[tx [], .int .i64 0, tx []] 26) = y1 at *
            refine hK.out _ _ ?_ (fun _ => ?_)
            · exact D1
            clear hK K
            refine wpAnyH_ready (rs := [3]) (by kernel_rfl) (by simp) ?_
            refine AllReadyH.cons rfl (fun K hK => ?_) AllReadyH.nil
            go_simp
            have D2 := bal D1 (.cells #[tx [], .int .i64 0, tx []] 26)
            have z2 := BoxF.new0 y1
            have zn2 := D1.size
            have z3 := z1.later (bal (Below.refl _ _) (.cells #[tx [], .int .i64 0, tx []] 26))
            generalize y1.alloc (.cells #[tx [], .int .i64 0, tx []] 26) = y2 at *
            refine hK.out _ _ ?_ (fun _ => ?_)
            · exact D2
            clear hK K
            generalize wd.heap.size = ba at *
            generalize y1.heap.size = bb at *
            have hab : ba ≠ bb := by omega
            refine wpAnyH_ready (rs := [4]) (by kernel_rfl) (by simp) ?_
            refine AllReadyH.cons rfl (fun K hK => ?_) AllReadyH.nil
            have gc0 := z3.c0
            have gf0 := z3.f0
            have gf1 := z3.f1
            have gf2 := z3.f2
            obtain ⟨gw1, gw2⟩ := z3.ways x
            go_simp
            have D3 : Below w3.heap.size w3 (((y2.setCell ⟨ba, 0, none⟩ (.string ⟨x.name.toArray⟩)).setCell ⟨ba, 1, none⟩ (.int .i64 x.kind)).setCell ⟨ba, 2, none⟩ (.string ⟨x.text.toArray⟩)) := below_put3 D2 (b := ba) (by omega) x
            have q9 : BoxF (((y2.setCell ⟨ba, 0, none⟩ (.string ⟨x.name.toArray⟩)).setCell ⟨ba, 1, none⟩ (.int .i64 x.kind)).setCell ⟨ba, 2, none⟩ (.string ⟨x.text.toArray⟩)) ba x := z3.put3 x
            have q10 : BoxF (((y2.setCell ⟨ba, 0, none⟩ (.string ⟨x.name.toArray⟩)).setCell ⟨ba, 1, none⟩ (.int .i64 x.kind)).setCell ⟨ba, 2, none⟩ (.string ⟨x.text.toArray⟩)) bb mat0 := z2.far3 (b' := ba) (by omega) x
            clear gc0 gf0 gf1 gf2 gw1 gw2 z2 z3
            generalize ((y2.setCell ⟨ba, 0, none⟩ (.string ⟨x.name.toArray⟩)).setCell ⟨ba, 1, none⟩ (.int .i64 x.kind)).setCell ⟨ba, 2, none⟩ (.string ⟨x.text.toArray⟩) = y3 at *
            refine hK.out _ _ ?_ (fun _ => ?_)
            · exact D3
            clear hK K
            refine wpAnyH_ready (rs := [5]) (by kernel_rfl) (by simp) ?_
            refine AllReadyH.cons rfl (fun K hK => ?_) AllReadyH.nil
            have gc0 := q10.c0
            have gf0 := q10.f0
            have gf1 := q10.f1
            have gf2 := q10.f2
            obtain ⟨gw1, gw2⟩ := q10.ways x
            go_simp
            have D4 : Below w3.heap.size w3 (((y3.setCell ⟨bb, 0, none⟩ (.string ⟨x.name.toArray⟩)).setCell ⟨bb, 1, none⟩ (.int .i64 x.kind)).setCell ⟨bb, 2, none⟩ (.string ⟨x.text.toArray⟩)) := below_put3 D3 (b := bb) (by omega) x
            have p10 : BoxF (((y3.setCell ⟨bb, 0, none⟩ (.string ⟨x.name.toArray⟩)).setCell ⟨bb, 1, none⟩ (.int .i64 x.kind)).setCell ⟨bb, 2, none⟩ (.string ⟨x.text.toArray⟩)) bb x := q10.put3 x
            have p9 : BoxF (((y3.setCell ⟨bb, 0, none⟩ (.string ⟨x.name.toArray⟩)).setCell ⟨bb, 1, none⟩ (.int .i64 x.kind)).setCell ⟨bb, 2, none⟩ (.string ⟨x.text.toArray⟩)) ba x := q9.far3 (b' := bb) (by omega) x
            clear gc0 gf0 gf1 gf2 gw1 gw2 q9 q10
            generalize ((y3.setCell ⟨bb, 0, none⟩ (.string ⟨x.name.toArray⟩)).setCell ⟨bb, 1, none⟩ (.int .i64 x.kind)).setCell ⟨bb, 2, none⟩ (.string ⟨x.text.toArray⟩) = y4 at *
            refine hK.out _ _ ?_ (fun _ => ?_)
            · exact D4
            clear hK K
            refine wpAnyH_done (by kernel_rfl) ?_ _
            refine NoPanic.normal ?_
            show R7 _ _
            rw [hR7.out]
            exact ⟨ba, bb, _, _, _, _, _, _, _, _, _, _, _, _, _, _, _, _, _, _, _, _, _, _, _, _, _, _, _, _, _, _, _, _, _, _, _, _, _, _, _, _, _, _, _, _, _, _, _, _, _, _, _, _, _, _, _, _, _, _, rfl, p9, p10, by omega, by omega, by omega, D4⟩
          · go_simp
            have D1 := bal C0 (.cells #[tx [], .int .i64 0, tx []] 26)
            have z1 := BoxF.new0 wd
            have zn1 := C0.size
            have zl1 : wd.heap.size < (wd.alloc (.cells #[tx [], .int .i64 0, tx []] 26)).heap.size := World.block_lt_of_cell? _ _ z1.c0
            generalize wd.alloc (.cells #[tx [], .int .i64 0, tx []] 26) = y1 at *
            refine hK.out _ _ ?_ (fun _ => ?_)
            · exact D1
            clear hK K
            refine wpAnyH_ready (rs := [2]) (by kernel_rfl) (by simp) ?_
            refine AllReadyH.cons rfl (fun K hK => ?_) AllReadyH.nil
            go_simp
            have D2 := bal D1 (.cells #[tx [], .int .i64 0, tx []] 26)
            have z2 := BoxF.new0 y1
            have zn2 := D1.size
            have z3 := z1.later (bal (Below.refl _ _) (.cells #[tx [], .int .i64 0, tx []] 26))
            generalize y1.alloc (.cells #[tx [], .int .i64 0, tx []] 26) = y2 at *
            refine hK.out _ _ ?_ (fun _ => ?_)
            · exact D2
            clear hK K
            generalize wd.heap.size = ba at *
            generalize y1.heap.size = bb at *
            have hab : ba ≠ bb := by omega
            refine wpAnyH_ready (rs := [4]) (by kernel_rfl) (by simp) ?_
            refine AllReadyH.cons rfl (fun K hK => ?_) AllReadyH.nil
            have gc0 := z2.c0
            have gf0 := z2.f0
            have gf1 := z2.f1
            have gf2 := z2.f2
            obtain ⟨gw1, gw2⟩ := z2.ways x
            go_simp
            have D3 : Below w3.heap.size w3 (((y2.setCell ⟨bb, 0, none⟩ (.string ⟨x.name.toArray⟩)).setCell ⟨bb, 1, none⟩ (.int .i64 x.kind)).setCell ⟨bb, 2, none⟩ (.string ⟨x.text.toArray⟩)) := below_put3 D2 (b := bb) (by omega) x
            have q9 : BoxF (((y2.setCell ⟨bb, 0, none⟩ (.string ⟨x.name.toArray⟩)).setCell ⟨bb, 1, none⟩ (.int .i64 x.kind)).setCell ⟨bb, 2, none⟩ (.string ⟨x.text.toArray⟩)) bb x := z2.put3 x
            have q10 : BoxF (((y2.setCell ⟨bb, 0, none⟩ (.string ⟨x.name.toArray⟩)).setCell ⟨bb, 1, none⟩ (.int .i64 x.kind)).setCell ⟨bb, 2, none⟩ (.string ⟨x.text.toArray⟩)) ba mat0 := z3.far3 (b' := bb) (by omega) x
            clear gc0 gf0 gf1 gf2 gw1 gw2 z2 z3
            generalize ((y2.setCell ⟨bb, 0, none⟩ (.string ⟨x.name.toArray⟩)).setCell ⟨bb, 1, none⟩ (.int .i64 x.kind)).setCell ⟨bb, 2, none⟩ (.string ⟨x.text.toArray⟩) = y3 at *
            refine hK.out _ _ ?_ (fun _ => ?_)
            · exact D3
            clear hK K
            refine wpAnyH_ready (rs := [5]) (by kernel_rfl) (by simp) ?_
            refine AllReadyH.cons rfl (fun K hK => ?_) AllReadyH.nil
            have gc0 := q10.c0
            have gf0 := q10.f0
            have gf1 := q10.f1
            have gf2 := q10.f2
            obtain ⟨gw1, gw2⟩ := q10.ways x
            go_simp
            have D4 : Below w3.heap.size w3 (((y3.setCell ⟨ba, 0, none⟩ (.string ⟨x.name.toArray⟩)).setCell ⟨ba, 1, none⟩ (.int .i64 x.kind)).setCell ⟨ba, 2, none⟩ (.string ⟨x.text.toArray⟩)) := below_put3 D3 (b := ba) (by omega) x
            have p10 : BoxF (((y3.setCell ⟨ba, 0, none⟩ (.string ⟨x.name.toArray⟩)).setCell ⟨ba, 1, none⟩ (.int .i64 x.kind)).setCell ⟨ba, 2, none⟩ (.string ⟨x.text.toArray⟩)) ba x := q10.put3 x
            have p9 : BoxF (((y3.setCell ⟨ba, 0, none⟩ (.string ⟨x.name.toArray⟩)).setCell ⟨ba, 1, none⟩ (.int .i64 x.kind)).setCell ⟨ba, 2, none⟩ (.string ⟨x.text.toArray⟩)) bb x := q9.far3 (b' := ba) (by omega) x
            clear gc0 gf0 gf1 gf2 gw1 gw2 q9 q10
            generalize ((y3.setCell ⟨ba, 0, none⟩ (.string ⟨x.name.toArray⟩)).setCell ⟨ba, 1, none⟩ (.int .i64 x.kind)).setCell ⟨ba, 2, none⟩ (.string ⟨x.text.toArray⟩) = y4 at *
            refine hK.out _ _ ?_ (fun _ => ?_)
            · exact D4
            clear hK K
            refine wpAnyH_done (by kernel_rfl) ?_ _
            refine NoPanic.normal ?_
            show R7 _ _
            rw [hR7.out]
            exact ⟨bb, ba, _, _, _, _, _, _, _, _, _, _, _, _, _, _, _, _, _, _, _, _, _, _, _, _, _, _, _, _, _, _, _, _, _, _, _, _, _, _, _, _, _, _, _, _, _, _, _, _, _, _, _, _, _, _, _, _, _, _, rfl, p9, p10, by omega, by omega, by omega, D4⟩
        intro a' w4 h
        rw [hR7.out] at h
        obtain ⟨b9, b10, u2, u3, u4, u6, u11, u12, u13, u14, u15, u16, u17, u18, u19, u20, u21, u22, u23, u24, u25, u26, u27, u28, u29, u30, u31, u32, u33, u34, u35, u36, u37, u38, u39, u40, u41, u42, u43, u44, u45, u46, u47, u48, u49, u50, u51, u52, u53, u54, u55, u56, u57, u58, u59, u60, u61, u62, u63, u64, rfl, HA, HB, hne, h9, h10, hb4⟩ := h
        clear hR7 R7
        have hk1 := HA.c1
        have hk2 := HA.f1
        have HB1 := HB.far1 (b' := b9) hne 1 (.int .i64 1)
        have hk3 := HB1.c1
        have hk4 := HB1.f1
        go_wp2_with fail
        have HA2 := ((HA.kind 1).far1 (b' := b10) (fun e => hne e.symm) 1 (.int .i64 2))
        have HB2 := HB1.kind 2
        have B5 := (hb4.setCell (p := ⟨b9, 1, none⟩) h9 (.int .i64 1)).setCell (p := ⟨b10, 1, none⟩) h10 (.int .i64 2)
        have HX5 := HX3.later B5
        have B6 := Below.chain B3 B5
        clear hk1 hk2 hk3 hk4 HB1 HA HB hb4 B3 B5 HX3
        generalize (w4.setCell ⟨b9, 1, none⟩ (.int .i64 1)).setCell ⟨b10, 1, none⟩ (.int .i64 2) = w5 at *
        have hA0 : ∀ W, Below w5.heap.size w5 W → Calls Tryd.prog 15 #[.slice ao n cap, .slice none 0 0] W fun e w' => e = .returned (.bool true) ∧ Below W.heap.size W w' := fun W hW => all_any ao n cap l none 0 0 [] W hn (by omega) ((hl.later B6).later hW) ⟨rfl, fun h => absurd h (by omega)⟩ hf (fun _ h => by cases h)
        have hA1 : ∀ (y : Mat) (b : Nat) W, Big y.name ∧ Big y.text → Below w5.heap.size w5 W → Ms W (some ⟨b, 0, none⟩) 1 [y] → Calls Tryd.prog 15 #[.slice ao n cap, .slice (some ⟨b, 0, none⟩) 1 1] W fun e w' => e = .returned (.bool (fAll l [y])) ∧ Below W.heap.size W w' := fun y b W hy hW hM => all_any ao n cap l _ 1 1 [y] W hn (by omega) ((hl.later B6).later hW) hM hf (fitM_one hy)
        have HQ : Hid (fAll l mx = (fAll l m && fAll l [x])) := by show _ = _; rw [HMX.out, all_snoc2]
        have HE : (fAll l [⟨x.name, 1, x.text⟩] != fAll l [⟨x.name, 2, x.text⟩]) = true := by rw [opposite]; cases fAll l [⟨x.name, 2, x.text⟩] <;> rfl
        have hAx := fun b W => hA1 x b W hx
        have hA9 := fun b W => hA1 ⟨x.name, 1, x.text⟩ b W hx
        have hA10 := fun b W => hA1 ⟨x.name, 2, x.text⟩ b W hx
        clear hA1 HMX HN hgx
        generalize fAll l [x] = O at *
        generalize fAll l [⟨x.name, 1, x.text⟩] = E1 at *
        generalize fAll l [⟨x.name, 2, x.text⟩] = E2 at *
        generalize fAll l mx = VB at *
        generalize fAll l m = VA at *
        obtain rfl : VB = (VA && O) := HQ.out
        clear HQ
        have HE2 : ¬ E1 = E2 := by simpa using HE
        clear HE
        cases VA with
        | true =>
          simp only [Bool.true_and]
          have C0 : Below w5.heap.size w5 w5.drew := (Below.refl _ _).drew
          refine wp_region_noPanic ?_
          refine wp_region_held_drew (S := fun W => Below w5.heap.size w5 W) (by kernel_rfl) ?_ (fun _ => ?_)
          · exact C0
          generalize w5.drew = wd at *
          refine take_at 0 (some 41) (.slice ao n cap) rfl rfl (by kernel_rfl) (by kernel_rfl) (by kernel_rfl) (fun _ _ _ h => h) (by rfl) (fun W hSw => by go_simp) C0 ?_
          simp only [Act.put, List.setIfInBounds_toArray, List.set_cons_zero, List.set_cons_succ]
          refine wpAnyH_ready (rs := [1]) (by kernel_rfl) (by simp) ?_
          refine AllReadyH.cons rfl (fun K hK => ?_) AllReadyH.nil
          go_simp
          refine (hA0 _ C0).mono ?_
          rintro e y1 ⟨rfl, hy1⟩
          have C1 := Below.chain C0 hy1
          refine hK.out _ _ ?_ (fun _ => ?_)
          · exact C1
          clear hK K
          refine take_at 2 (some 43) (.bool true) rfl rfl (by kernel_rfl) (by kernel_rfl) (by kernel_rfl) (fun _ _ _ h => h) (by rfl) (fun W hSw => by go_simp) C1 ?_
          simp only [Act.put, List.setIfInBounds_toArray, List.set_cons_zero, List.set_cons_succ]
          refine take_at 3 (some 44) (.bool O) rfl rfl (by kernel_rfl) (by kernel_rfl) (by kernel_rfl) (fun _ _ _ h => h) (by rfl) (fun W hSw => by go_simp) C1 ?_
          simp only [Act.put, List.setIfInBounds_toArray, List.set_cons_zero, List.set_cons_succ]
          refine take_at 4 (some 45) (.bool true) rfl rfl (by kernel_rfl) (by kernel_rfl) (by kernel_rfl) (fun _ _ _ h => h) (by rfl) (fun W hSw => by go_simp) C1 ?_
          simp only [Act.put, List.setIfInBounds_toArray, List.set_cons_zero, List.set_cons_succ]
          refine take_at 5 (some 46) (.bool true) rfl rfl (by kernel_rfl) (by kernel_rfl) (by kernel_rfl) (fun _ _ _ h => h) (by rfl) (fun W hSw => by go_simp) C1 ?_
          simp only [Act.put, List.setIfInBounds_toArray, List.set_cons_zero, List.set_cons_succ]
          refine take_at 6 (some 47) (.slice ao n cap) rfl rfl (by kernel_rfl) (by kernel_rfl) (by kernel_rfl) (fun _ _ _ h => h) (by rfl) (fun W hSw => by go_simp) C1 ?_
          simp only [Act.put, List.setIfInBounds_toArray, List.set_cons_zero, List.set_cons_succ]
          refine take_at 7 (some 48) (.agg #[tx x.name, .int .i64 x.kind, tx x.text]) rfl rfl (by kernel_rfl) (by kernel_rfl) (by kernel_rfl) (fun _ _ _ h => h) (by rfl) (fun W hSw => by have c0 := (HX5.later hSw).c0; have c1 := (HX5.later hSw).c1; have c2 := (HX5.later hSw).c2; go_simp) C1 ?_
          simp only [Act.put, List.setIfInBounds_toArray, List.set_cons_zero, List.set_cons_succ]
          refine wpAnyH_ready (rs := [8]) (by kernel_rfl) (by simp) ?_
          refine AllReadyH.cons rfl (fun K hK => ?_) AllReadyH.nil
          go_simp
          have hn1 := Ms.new y1 x
          have C2 := bal C1 (.cells #[tx x.name, .int .i64 x.kind, tx x.text] 26)
          generalize y1.alloc (.cells #[tx x.name, .int .i64 x.kind, tx x.text] 26) = y2 at *
          refine hK.out _ _ ?_ (fun _ => ?_)
          · exact C2
          clear hK K
          refine wpAnyH_ready (rs := [9]) (by kernel_rfl) (by simp) ?_
          refine AllReadyH.cons rfl (fun K hK => ?_) AllReadyH.nil
          go_simp
          refine (hAx _ _ C2 hn1).mono ?_
          rintro e y3 ⟨rfl, hy3⟩
          have C3 := Below.chain C2 hy3
          refine hK.out _ _ ?_ (fun _ => ?_)
          · exact C3
          clear hK K
          refine take_at 10 (some 51) (.bool O) rfl rfl (by kernel_rfl) (by kernel_rfl) (by kernel_rfl) (fun _ _ _ h => h) (by rfl) (fun W hSw => by go_simp) C3 ?_
          simp only [Act.put, List.setIfInBounds_toArray, List.set_cons_zero, List.set_cons_succ]
          refine take_at 11 (some 52) (.bool true) rfl rfl (by kernel_rfl) (by kernel_rfl) (by kernel_rfl) (fun _ _ _ h => h) (by rfl) (fun W hSw => by go_simp) C3 ?_
          simp only [Act.put, List.setIfInBounds_toArray, List.set_cons_zero, List.set_cons_succ]
          refine take_at 12 (some 53) (.bool true) rfl rfl (by kernel_rfl) (by kernel_rfl) (by kernel_rfl) (fun _ _ _ h => h) (by rfl) (fun W hSw => by go_simp) C3 ?_
          simp only [Act.put, List.setIfInBounds_toArray, List.set_cons_zero, List.set_cons_succ]
          refine take_at 13 (some 54) (.bool true) rfl rfl (by kernel_rfl) (by kernel_rfl) (by kernel_rfl) (fun _ _ _ h => h) (by rfl) (fun W hSw => by go_simp) C3 ?_
          simp only [Act.put, List.setIfInBounds_toArray, List.set_cons_zero, List.set_cons_succ]
          refine take_at 14 (some 55) (.slice ao n cap) rfl rfl (by kernel_rfl) (by kernel_rfl) (by kernel_rfl) (fun _ _ _ h => h) (by rfl) (fun W hSw => by go_simp) C3 ?_
          simp only [Act.put, List.setIfInBounds_toArray, List.set_cons_zero, List.set_cons_succ]
          refine take_at 15 (some 56) (.agg #[tx x.name, .int .i64 1, tx x.text]) rfl rfl (by kernel_rfl) (by kernel_rfl) (by kernel_rfl) (fun _ _ _ h => h) (by rfl) (fun W hSw => by have c0 := (HA2.later hSw).c0; have c1 := (HA2.later hSw).c1; have c2 := (HA2.later hSw).c2; go_simp) C3 ?_
          simp only [Act.put, List.setIfInBounds_toArray, List.set_cons_zero, List.set_cons_succ]
          refine take_at 18 (some 59) (.slice ao n cap) rfl rfl (by kernel_rfl) (by kernel_rfl) (by kernel_rfl) (fun _ _ _ h => h) (by rfl) (fun W hSw => by go_simp) C3 ?_
          simp only [Act.put, List.setIfInBounds_toArray, List.set_cons_zero, List.set_cons_succ]
          refine take_at 19 (some 60) (.agg #[tx x.name, .int .i64 2, tx x.text]) rfl rfl (by kernel_rfl) (by kernel_rfl) (by kernel_rfl) (fun _ _ _ h => h) (by rfl) (fun W hSw => by have c0 := (HB2.later hSw).c0; have c1 := (HB2.later hSw).c1; have c2 := (HB2.later hSw).c2; go_simp) C3 ?_
          simp only [Act.put, List.setIfInBounds_toArray, List.set_cons_zero, List.set_cons_succ]
          refine wpAnyH_ready (rs := [16, 20]) (by kernel_rfl) (by simp) ?_
          refine AllReadyH.cons rfl (fun K hK => ?_) (AllReadyH.cons rfl (fun K hK => ?_) AllReadyH.nil)
          · go_simp
            have hm9 := Ms.new y3 ⟨x.name, 1, x.text⟩
            have F1 := bal C3 (.cells #[tx x.name, .int .i64 1, tx x.text] 26)
            have F1' := bal (Below.refl y3.heap.size y3) (.cells #[tx x.name, .int .i64 1, tx x.text] 26)
            generalize y3.alloc (.cells #[tx x.name, .int .i64 1, tx x.text] 26) = a1 at *
            refine hK.out _ _ ?_ (fun _ => ?_)
            · exact F1
            clear hK K
            refine wpAnyH_ready (rs := [17, 20]) (by kernel_rfl) (by simp) ?_
            refine AllReadyH.cons rfl (fun K hK => ?_) (AllReadyH.cons rfl (fun K hK => ?_) AllReadyH.nil)
            · go_simp
              refine (hA9 _ _ F1 hm9).mono ?_
              rintro e a2 ⟨rfl, ha2⟩
              have F2 := Below.chain F1 ha2
              refine hK.out _ _ ?_ (fun _ => ?_)
              · exact F2
              clear hK K
              refine wpAnyH_ready (rs := [20]) (by kernel_rfl) (by simp) ?_
              refine AllReadyH.cons rfl (fun K hK => ?_) AllReadyH.nil
              go_simp
              have hm10 := Ms.new a2 ⟨x.name, 2, x.text⟩
              have F3 := bal F2 (.cells #[tx x.name, .int .i64 2, tx x.text] 26)
              have F3' := bal (Below.refl a2.heap.size a2) (.cells #[tx x.name, .int .i64 2, tx x.text] 26)
              generalize a2.alloc (.cells #[tx x.name, .int .i64 2, tx x.text] 26) = a3 at *
              refine hK.out _ _ ?_ (fun _ => ?_)
              · exact F3
              clear hK K
              refine wpAnyH_ready (rs := [21]) (by kernel_rfl) (by simp) ?_
              refine AllReadyH.cons rfl (fun K hK => ?_) AllReadyH.nil
              go_simp
              refine (hA10 _ _ F3 hm10).mono ?_
              rintro e a4 ⟨rfl, ha4⟩
              have F4 := Below.chain F3 ha4
              refine hK.out _ _ ?_ (fun _ => ?_)
              · exact F4
              clear hK K
              refine take_at 22 (some 63) (.bool true) rfl rfl (by kernel_rfl) (by kernel_rfl) (by kernel_rfl) (fun _ _ _ h => h) (by rfl) (fun W hSw => by go_simp) F4 ?_
              simp only [Act.put, List.setIfInBounds_toArray, List.set_cons_zero, List.set_cons_succ]
              refine take_at 23 (some 64) (.bool true) rfl rfl (by kernel_rfl) (by kernel_rfl) (by kernel_rfl) (fun _ _ _ h => h) (by rfl) (fun W hSw => by go_simp) F4 ?_
              simp only [Act.put, List.setIfInBounds_toArray, List.set_cons_zero, List.set_cons_succ]
              refine take_at 24 (some 6) (.bool true) rfl rfl (by kernel_rfl) (by kernel_rfl) (by kernel_rfl) (fun _ _ _ h => h) (by rfl) (fun W hSw => by go_simp) F4 ?_
              simp only [Act.put, List.setIfInBounds_toArray, List.set_cons_zero, List.set_cons_succ]
              refine wpAnyH_done (by kernel_rfl) ?_ _
              refine NoPanic.normal ?_
              have F := Below.chain B6 F4
              go_wp2_with fail
              go_ret
              exact ⟨rfl, F⟩
            · go_simp
              have hm10 := Ms.new a1 ⟨x.name, 2, x.text⟩
              have F2 := bal F1 (.cells #[tx x.name, .int .i64 2, tx x.text] 26)
              have F2' := bal (Below.refl a1.heap.size a1) (.cells #[tx x.name, .int .i64 2, tx x.text] 26)
              generalize a1.alloc (.cells #[tx x.name, .int .i64 2, tx x.text] 26) = a2 at *
              refine hK.out _ _ ?_ (fun _ => ?_)
              · exact F2
              clear hK K
              refine wpAnyH_ready (rs := [17]) (by kernel_rfl) (by simp) ?_
              refine AllReadyH.cons rfl (fun K hK => ?_) AllReadyH.nil
              go_simp
              refine (hA9 _ _ F2 (hm9.later F2')).mono ?_
              rintro e a3 ⟨rfl, ha3⟩
              have F3 := Below.chain F2 ha3
              refine hK.out _ _ ?_ (fun _ => ?_)
              · exact F3
              clear hK K
              refine wpAnyH_ready (rs := [21]) (by kernel_rfl) (by simp) ?_
              refine AllReadyH.cons rfl (fun K hK => ?_) AllReadyH.nil
              go_simp
              refine (hA10 _ _ F3 (hm10.later ha3)).mono ?_
              rintro e a4 ⟨rfl, ha4⟩
              have F4 := Below.chain F3 ha4
              refine hK.out _ _ ?_ (fun _ => ?_)
              · exact F4
              clear hK K
              refine take_at 22 (some 63) (.bool true) rfl rfl (by kernel_rfl) (by kernel_rfl) (by kernel_rfl) (fun _ _ _ h => h) (by rfl) (fun W hSw => by go_simp) F4 ?_
              simp only [Act.put, List.setIfInBounds_toArray, List.set_cons_zero, List.set_cons_succ]
              refine take_at 23 (some 64) (.bool true) rfl rfl (by kernel_rfl) (by kernel_rfl) (by kernel_rfl) (fun _ _ _ h => h) (by rfl) (fun W hSw => by go_simp) F4 ?_
              simp only [Act.put, List.setIfInBounds_toArray, List.set_cons_zero, List.set_cons_succ]
              refine take_at 24 (some 6) (.bool true) rfl rfl (by kernel_rfl) (by kernel_rfl) (by kernel_rfl) (fun _ _ _ h => h) (by rfl) (fun W hSw => by go_simp) F4 ?_
              simp only [Act.put, List.setIfInBounds_toArray, List.set_cons_zero, List.set_cons_succ]
              refine wpAnyH_done (by kernel_rfl) ?_ _
              refine NoPanic.normal ?_
              have F := Below.chain B6 F4
              go_wp2_with fail
              go_ret
              exact ⟨rfl, F⟩
          · go_simp
            have hm10 := Ms.new y3 ⟨x.name, 2, x.text⟩
            have F1 := bal C3 (.cells #[tx x.name, .int .i64 2, tx x.text] 26)
            have F1' := bal (Below.refl y3.heap.size y3) (.cells #[tx x.name, .int .i64 2, tx x.text] 26)
            generalize y3.alloc (.cells #[tx x.name, .int .i64 2, tx x.text] 26) = a1 at *
            refine hK.out _ _ ?_ (fun _ => ?_)
            · exact F1
            clear hK K
            refine wpAnyH_ready (rs := [16]) (by kernel_rfl) (by simp) ?_
            refine AllReadyH.cons rfl (fun K hK => ?_) AllReadyH.nil
            go_simp
            have hm9 := Ms.new a1 ⟨x.name, 1, x.text⟩
            have F2 := bal F1 (.cells #[tx x.name, .int .i64 1, tx x.text] 26)
            have F2' := bal (Below.refl a1.heap.size a1) (.cells #[tx x.name, .int .i64 1, tx x.text] 26)
            generalize a1.alloc (.cells #[tx x.name, .int .i64 1, tx x.text] 26) = a2 at *
            refine hK.out _ _ ?_ (fun _ => ?_)
            · exact F2
            clear hK K
            refine wpAnyH_ready (rs := [17]) (by kernel_rfl) (by simp) ?_
            refine AllReadyH.cons rfl (fun K hK => ?_) AllReadyH.nil
            go_simp
            refine (hA9 _ _ F2 hm9).mono ?_
            rintro e a3 ⟨rfl, ha3⟩
            have F3 := Below.chain F2 ha3
            refine hK.out _ _ ?_ (fun _ => ?_)
            · exact F3
            clear hK K
            refine wpAnyH_ready (rs := [21]) (by kernel_rfl) (by simp) ?_
            refine AllReadyH.cons rfl (fun K hK => ?_) AllReadyH.nil
            go_simp
            refine (hA10 _ _ F3 ((hm10.later F2').later ha3)).mono ?_
            rintro e a4 ⟨rfl, ha4⟩
            have F4 := Below.chain F3 ha4
            refine hK.out _ _ ?_ (fun _ => ?_)
            · exact F4
            clear hK K
            refine take_at 22 (some 63) (.bool true) rfl rfl (by kernel_rfl) (by kernel_rfl) (by kernel_rfl) (fun _ _ _ h => h) (by rfl) (fun W hSw => by go_simp) F4 ?_
            simp only [Act.put, List.setIfInBounds_toArray, List.set_cons_zero, List.set_cons_succ]
            refine take_at 23 (some 64) (.bool true) rfl rfl (by kernel_rfl) (by kernel_rfl) (by kernel_rfl) (fun _ _ _ h => h) (by rfl) (fun W hSw => by go_simp) F4 ?_
            simp only [Act.put, List.setIfInBounds_toArray, List.set_cons_zero, List.set_cons_succ]
            refine take_at 24 (some 6) (.bool true) rfl rfl (by kernel_rfl) (by kernel_rfl) (by kernel_rfl) (fun _ _ _ h => h) (by rfl) (fun W hSw => by go_simp) F4 ?_
            simp only [Act.put, List.setIfInBounds_toArray, List.set_cons_zero, List.set_cons_succ]
            refine wpAnyH_done (by kernel_rfl) ?_ _
            refine NoPanic.normal ?_
            have F := Below.chain B6 F4
            go_wp2_with fail
            go_ret
            exact ⟨rfl, F⟩
        | false =>
          simp only [Bool.false_and]
          have C0 : Below w5.heap.size w5 w5.drew := (Below.refl _ _).drew
          refine wp_region_noPanic ?_
          refine wp_region_held_drew (S := fun W => Below w5.heap.size w5 W) (by kernel_rfl) ?_ (fun _ => ?_)
          · exact C0
          generalize w5.drew = wd at *
          refine take_at 0 (some 41) (.slice ao n cap) rfl rfl (by kernel_rfl) (by kernel_rfl) (by kernel_rfl) (fun _ _ _ h => h) (by rfl) (fun W hSw => by go_simp) C0 ?_
          simp only [Act.put, List.setIfInBounds_toArray, List.set_cons_zero, List.set_cons_succ]
          refine wpAnyH_ready (rs := [1]) (by kernel_rfl) (by simp) ?_
          refine AllReadyH.cons rfl (fun K hK => ?_) AllReadyH.nil
          go_simp
          refine (hA0 _ C0).mono ?_
          rintro e y1 ⟨rfl, hy1⟩
          have C1 := Below.chain C0 hy1
          refine hK.out _ _ ?_ (fun _ => ?_)
          · exact C1
          clear hK K
          refine take_at 2 (some 43) (.bool true) rfl rfl (by kernel_rfl) (by kernel_rfl) (by kernel_rfl) (fun _ _ _ h => h) (by rfl) (fun W hSw => by go_simp) C1 ?_
          simp only [Act.put, List.setIfInBounds_toArray, List.set_cons_zero, List.set_cons_succ]
          refine take_at 3 (some 44) (.bool false) rfl rfl (by kernel_rfl) (by kernel_rfl) (by kernel_rfl) (fun _ _ _ h => h) (by rfl) (fun W hSw => by go_simp) C1 ?_
          simp only [Act.put, List.setIfInBounds_toArray, List.set_cons_zero, List.set_cons_succ]
          refine take_at 4 (some 45) (.bool false) rfl rfl (by kernel_rfl) (by kernel_rfl) (by kernel_rfl) (fun _ _ _ h => h) (by rfl) (fun W hSw => by go_simp) C1 ?_
          simp only [Act.put, List.setIfInBounds_toArray, List.set_cons_zero, List.set_cons_succ]
          refine take_at 5 (some 46) (.bool false) rfl rfl (by kernel_rfl) (by kernel_rfl) (by kernel_rfl) (fun _ _ _ h => h) (by rfl) (fun W hSw => by go_simp) C1 ?_
          simp only [Act.put, List.setIfInBounds_toArray, List.set_cons_zero, List.set_cons_succ]
          refine skip_at 6 (some 47) rfl rfl (by kernel_rfl) (by kernel_rfl) (by kernel_rfl) (fun _ _ _ h => h) (by rfl) C1 ?_
          simp only [Act.put, List.setIfInBounds_toArray, List.set_cons_zero, List.set_cons_succ]
          refine skip_at 7 (some 48) rfl rfl (by kernel_rfl) (by kernel_rfl) (by kernel_rfl) (fun _ _ _ h => h) (by rfl) C1 ?_
          simp only [Act.put, List.setIfInBounds_toArray, List.set_cons_zero, List.set_cons_succ]
          refine skip_at 8 (some 49) rfl rfl (by kernel_rfl) (by kernel_rfl) (by kernel_rfl) (fun _ _ _ h => h) (by rfl) C1 ?_
          simp only [Act.put, List.setIfInBounds_toArray, List.set_cons_zero, List.set_cons_succ]
          refine skip_at 9 (some 50) rfl rfl (by kernel_rfl) (by kernel_rfl) (by kernel_rfl) (fun _ _ _ h => h) (by rfl) C1 ?_
          simp only [Act.put, List.setIfInBounds_toArray, List.set_cons_zero, List.set_cons_succ]
          refine take_at 10 (some 51) (.bool false) rfl rfl (by kernel_rfl) (by kernel_rfl) (by kernel_rfl) (fun _ _ _ h => h) (by rfl) (fun W hSw => by go_simp) C1 ?_
          simp only [Act.put, List.setIfInBounds_toArray, List.set_cons_zero, List.set_cons_succ]
          refine take_at 11 (some 52) (.bool true) rfl rfl (by kernel_rfl) (by kernel_rfl) (by kernel_rfl) (fun _ _ _ h => h) (by rfl) (fun W hSw => by go_simp) C1 ?_
          simp only [Act.put, List.setIfInBounds_toArray, List.set_cons_zero, List.set_cons_succ]
          refine take_at 12 (some 53) (.bool true) rfl rfl (by kernel_rfl) (by kernel_rfl) (by kernel_rfl) (fun _ _ _ h => h) (by rfl) (fun W hSw => by go_simp) C1 ?_
          simp only [Act.put, List.setIfInBounds_toArray, List.set_cons_zero, List.set_cons_succ]
          refine take_at 13 (some 54) (.bool true) rfl rfl (by kernel_rfl) (by kernel_rfl) (by kernel_rfl) (fun _ _ _ h => h) (by rfl) (fun W hSw => by go_simp) C1 ?_
          simp only [Act.put, List.setIfInBounds_toArray, List.set_cons_zero, List.set_cons_succ]
          refine take_at 14 (some 55) (.slice ao n cap) rfl rfl (by kernel_rfl) (by kernel_rfl) (by kernel_rfl) (fun _ _ _ h => h) (by rfl) (fun W hSw => by go_simp) C1 ?_
          simp only [Act.put, List.setIfInBounds_toArray, List.set_cons_zero, List.set_cons_succ]
          refine take_at 15 (some 56) (.agg #[tx x.name, .int .i64 1, tx x.text]) rfl rfl (by kernel_rfl) (by kernel_rfl) (by kernel_rfl) (fun _ _ _ h => h) (by rfl) (fun W hSw => by have c0 := (HA2.later hSw).c0; have c1 := (HA2.later hSw).c1; have c2 := (HA2.later hSw).c2; go_simp) C1 ?_
          simp only [Act.put, List.setIfInBounds_toArray, List.set_cons_zero, List.set_cons_succ]
          refine take_at 18 (some 59) (.slice ao n cap) rfl rfl (by kernel_rfl) (by kernel_rfl) (by kernel_rfl) (fun _ _ _ h => h) (by rfl) (fun W hSw => by go_simp) C1 ?_
          simp only [Act.put, List.setIfInBounds_toArray, List.set_cons_zero, List.set_cons_succ]
          refine take_at 19 (some 60) (.agg #[tx x.name, .int .i64 2, tx x.text]) rfl rfl (by kernel_rfl) (by kernel_rfl) (by kernel_rfl) (fun _ _ _ h => h) (by rfl) (fun W hSw => by have c0 := (HB2.later hSw).c0; have c1 := (HB2.later hSw).c1; have c2 := (HB2.later hSw).c2; go_simp) C1 ?_
          simp only [Act.put, List.setIfInBounds_toArray, List.set_cons_zero, List.set_cons_succ]
          refine wpAnyH_ready (rs := [16, 20]) (by kernel_rfl) (by simp) ?_
          refine AllReadyH.cons rfl (fun K hK => ?_) (AllReadyH.cons rfl (fun K hK => ?_) AllReadyH.nil)
          · go_simp
            have hm9 := Ms.new y1 ⟨x.name, 1, x.text⟩
            have F1 := bal C1 (.cells #[tx x.name, .int .i64 1, tx x.text] 26)
            have F1' := bal (Below.refl y1.heap.size y1) (.cells #[tx x.name, .int .i64 1, tx x.text] 26)
            generalize y1.alloc (.cells #[tx x.name, .int .i64 1, tx x.text] 26) = a1 at *
            refine hK.out _ _ ?_ (fun _ => ?_)
            · exact F1
            clear hK K
            refine wpAnyH_ready (rs := [17, 20]) (by kernel_rfl) (by simp) ?_
            refine AllReadyH.cons rfl (fun K hK => ?_) (AllReadyH.cons rfl (fun K hK => ?_) AllReadyH.nil)
            · go_simp
              refine (hA9 _ _ F1 hm9).mono ?_
              rintro e a2 ⟨rfl, ha2⟩
              have F2 := Below.chain F1 ha2
              refine hK.out _ _ ?_ (fun _ => ?_)
              · exact F2
              clear hK K
              refine wpAnyH_ready (rs := [20]) (by kernel_rfl) (by simp) ?_
              refine AllReadyH.cons rfl (fun K hK => ?_) AllReadyH.nil
              go_simp
              have hm10 := Ms.new a2 ⟨x.name, 2, x.text⟩
              have F3 := bal F2 (.cells #[tx x.name, .int .i64 2, tx x.text] 26)
              have F3' := bal (Below.refl a2.heap.size a2) (.cells #[tx x.name, .int .i64 2, tx x.text] 26)
              generalize a2.alloc (.cells #[tx x.name, .int .i64 2, tx x.text] 26) = a3 at *
              refine hK.out _ _ ?_ (fun _ => ?_)
              · exact F3
              clear hK K
              refine wpAnyH_ready (rs := [21]) (by kernel_rfl) (by simp) ?_
              refine AllReadyH.cons rfl (fun K hK => ?_) AllReadyH.nil
              go_simp
              refine (hA10 _ _ F3 hm10).mono ?_
              rintro e a4 ⟨rfl, ha4⟩
              have F4 := Below.chain F3 ha4
              refine hK.out _ _ ?_ (fun _ => ?_)
              · exact F4
              clear hK K
              refine take_at 22 (some 63) (.bool true) rfl rfl (by kernel_rfl) (by kernel_rfl) (by kernel_rfl) (fun _ _ _ h => h) (by rfl) (fun W hSw => by go_simp) F4 ?_
              simp only [Act.put, List.setIfInBounds_toArray, List.set_cons_zero, List.set_cons_succ]
              refine take_at 23 (some 64) (.bool true) rfl rfl (by kernel_rfl) (by kernel_rfl) (by kernel_rfl) (fun _ _ _ h => h) (by rfl) (fun W hSw => by go_simp) F4 ?_
              simp only [Act.put, List.setIfInBounds_toArray, List.set_cons_zero, List.set_cons_succ]
              refine take_at 24 (some 6) (.bool true) rfl rfl (by kernel_rfl) (by kernel_rfl) (by kernel_rfl) (fun _ _ _ h => h) (by rfl) (fun W hSw => by go_simp) F4 ?_
              simp only [Act.put, List.setIfInBounds_toArray, List.set_cons_zero, List.set_cons_succ]
              refine wpAnyH_done (by kernel_rfl) ?_ _
              refine NoPanic.normal ?_
              have F := Below.chain B6 F4
              go_wp2_with fail
              go_ret
              exact ⟨rfl, F⟩
            · go_simp
              have hm10 := Ms.new a1 ⟨x.name, 2, x.text⟩
              have F2 := bal F1 (.cells #[tx x.name, .int .i64 2, tx x.text] 26)
              have F2' := bal (Below.refl a1.heap.size a1) (.cells #[tx x.name, .int .i64 2, tx x.text] 26)
              generalize a1.alloc (.cells #[tx x.name, .int .i64 2, tx x.text] 26) = a2 at *
              refine hK.out _ _ ?_ (fun _ => ?_)
              · exact F2
              clear hK K
              refine wpAnyH_ready (rs := [17]) (by kernel_rfl) (by simp) ?_
              refine AllReadyH.cons rfl (fun K hK => ?_) AllReadyH.nil
              go_simp
              refine (hA9 _ _ F2 (hm9.later F2')).mono ?_
              rintro e a3 ⟨rfl, ha3⟩
              have F3 := Below.chain F2 ha3
              refine hK.out _ _ ?_ (fun _ => ?_)
              · exact F3
              clear hK K
              refine wpAnyH_ready (rs := [21]) (by kernel_rfl) (by simp) ?_
              refine AllReadyH.cons rfl (fun K hK => ?_) AllReadyH.nil
              go_simp
              refine (hA10 _ _ F3 (hm10.later ha3)).mono ?_
              rintro e a4 ⟨rfl, ha4⟩
              have F4 := Below.chain F3 ha4
              refine hK.out _ _ ?_ (fun _ => ?_)
              · exact F4
              clear hK K
              refine take_at 22 (some 63) (.bool true) rfl rfl (by kernel_rfl) (by kernel_rfl) (by kernel_rfl) (fun _ _ _ h => h) (by rfl) (fun W hSw => by go_simp) F4 ?_
              simp only [Act.put, List.setIfInBounds_toArray, List.set_cons_zero, List.set_cons_succ]
              refine take_at 23 (some 64) (.bool true) rfl rfl (by kernel_rfl) (by kernel_rfl) (by kernel_rfl) (fun _ _ _ h => h) (by rfl) (fun W hSw => by go_simp) F4 ?_
              simp only [Act.put, List.setIfInBounds_toArray, List.set_cons_zero, List.set_cons_succ]
              refine take_at 24 (some 6) (.bool true) rfl rfl (by kernel_rfl) (by kernel_rfl) (by kernel_rfl) (fun _ _ _ h => h) (by rfl) (fun W hSw => by go_simp) F4 ?_
              simp only [Act.put, List.setIfInBounds_toArray, List.set_cons_zero, List.set_cons_succ]
              refine wpAnyH_done (by kernel_rfl) ?_ _
              refine NoPanic.normal ?_
              have F := Below.chain B6 F4
              go_wp2_with fail
              go_ret
              exact ⟨rfl, F⟩
          · go_simp
            have hm10 := Ms.new y1 ⟨x.name, 2, x.text⟩
            have F1 := bal C1 (.cells #[tx x.name, .int .i64 2, tx x.text] 26)
            have F1' := bal (Below.refl y1.heap.size y1) (.cells #[tx x.name, .int .i64 2, tx x.text] 26)
            generalize y1.alloc (.cells #[tx x.name, .int .i64 2, tx x.text] 26) = a1 at *
            refine hK.out _ _ ?_ (fun _ => ?_)
            · exact F1
            clear hK K
            refine wpAnyH_ready (rs := [16]) (by kernel_rfl) (by simp) ?_
            refine AllReadyH.cons rfl (fun K hK => ?_) AllReadyH.nil
            go_simp
            have hm9 := Ms.new a1 ⟨x.name, 1, x.text⟩
            have F2 := bal F1 (.cells #[tx x.name, .int .i64 1, tx x.text] 26)
            have F2' := bal (Below.refl a1.heap.size a1) (.cells #[tx x.name, .int .i64 1, tx x.text] 26)
            generalize a1.alloc (.cells #[tx x.name, .int .i64 1, tx x.text] 26) = a2 at *
            refine hK.out _ _ ?_ (fun _ => ?_)
            · exact F2
            clear hK K
            refine wpAnyH_ready (rs := [17]) (by kernel_rfl) (by simp) ?_
            refine AllReadyH.cons rfl (fun K hK => ?_) AllReadyH.nil
            go_simp
            refine (hA9 _ _ F2 hm9).mono ?_
            rintro e a3 ⟨rfl, ha3⟩
            have F3 := Below.chain F2 ha3
            refine hK.out _ _ ?_ (fun _ => ?_)
            · exact F3
            clear hK K
            refine wpAnyH_ready (rs := [21]) (by kernel_rfl) (by simp) ?_
            refine AllReadyH.cons rfl (fun K hK => ?_) AllReadyH.nil
            go_simp
            refine (hA10 _ _ F3 ((hm10.later F2').later ha3)).mono ?_
            rintro e a4 ⟨rfl, ha4⟩
            have F4 := Below.chain F3 ha4
            refine hK.out _ _ ?_ (fun _ => ?_)
            · exact F4
            clear hK K
            refine take_at 22 (some 63) (.bool true) rfl rfl (by kernel_rfl) (by kernel_rfl) (by kernel_rfl) (fun _ _ _ h => h) (by rfl) (fun W hSw => by go_simp) F4 ?_
            simp only [Act.put, List.setIfInBounds_toArray, List.set_cons_zero, List.set_cons_succ]
            refine take_at 23 (some 64) (.bool true) rfl rfl (by kernel_rfl) (by kernel_rfl) (by kernel_rfl) (fun _ _ _ h => h) (by rfl) (fun W hSw => by go_simp) F4 ?_
            simp only [Act.put, List.setIfInBounds_toArray, List.set_cons_zero, List.set_cons_succ]
            refine take_at 24 (some 6) (.bool true) rfl rfl (by kernel_rfl) (by kernel_rfl) (by kernel_rfl) (fun _ _ _ h => h) (by rfl) (fun W hSw => by go_simp) F4 ?_
            simp only [Act.put, List.setIfInBounds_toArray, List.set_cons_zero, List.set_cons_succ]
            refine wpAnyH_done (by kernel_rfl) ?_ _
            refine NoPanic.normal ?_
            have F := Below.chain B6 F4
            go_wp2_with fail
            go_ret
            exact ⟨rfl, F⟩
      · have h3' : (100 : Int) < x.text.length := by omega
        go_wp2_with fail
        go_ret
        exact ⟨rfl, B1⟩
    · have h2' : (10 : Int) < k := by omega
      go_wp2_with fail
      go_ret
      exact ⟨rfl, B1⟩
  · have h1' : (12 : Int) < n := by omega
    go_wp2_with fail
    go_ret
    exact ⟨rfl, B1⟩
end Go.Proofs.YtcalbghoacedhaaDoor
