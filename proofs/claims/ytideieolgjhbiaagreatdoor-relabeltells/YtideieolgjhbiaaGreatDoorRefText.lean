/- The reference's Op, filled, PrintRule: as the program's. -/
import Derived.Test.YtideieolgjhbiaaGreatDoorRefRule
import Derived.Test.YtideieolgjhbiaaGreatDoorRuleE
namespace Go.Proofs.YtideieolgjhbiaaGreatDoor
open Go.RowKit

set_option maxHeartbeats 1000000 in
theorem refOp_any (k : Int) (w : World) (h1 : 1 ≤ k) (h4 : k ≤ 4) : Calls Tryz.prog 34 #[.int .i64 k] w fun e w' => e = .returned (tx (signT k)) ∧ Below w.heap.size w w' := by
  have hb0 : ∀ o, Below w.heap.size w (w.alloc o) := bal (Below.refl _ _)
  have hk : k = 1 ∨ k = 2 ∨ k = 3 ∨ k = 4 := by omega
  rcases hk with rfl | rfl | rfl | rfl <;> (
    go_enter Tryz.func34, Tryz.ntmps34
    go_wp2_with fail
    go_ret
    exact ⟨rfl, hb0 _⟩)
theorem dol_take {t v : Str} {k : Nat} (h : k < t.length) : dol (t.take (k + 1)) v = dol (t.take k) v ++ (if t[k] = 36 then v else [t[k]]) := by
  rw [take_snocB t k h, dol_append]
  congr 1
  simp [dol]
set_option maxHeartbeats 1000000 in
theorem filled_any (s v : Str) (w : World) (hl : s.length ≤ 1000) (hv : v.length ≤ 1000) :
    Calls Tryz.prog 26 #[tx s, tx v] w fun e w' => e = .returned (tx (dol s v)) ∧ w = w' := by
  go_enter Tryz.func26, Tryz.ntmps26
  go_wp2_with fail
  go_loop [6, 5] (fun i u => ∃ (k : Nat) (t : Str), k ≤ s.length ∧ i = .int .i64 k ∧ u = tx t ∧ Hid (t = dol (s.take k) v) ∧ t.length ≤ 1001 * k) (fun i _ => s.length - (intOf i).toNat)
  case atStart => exact ⟨0, [], by omega, rfl, rfl, rfl, by simp⟩
  case round =>
    obtain ⟨k, t, hk, rfl, rfl, HT, ht⟩ := hrel
    by_cases hlt : k < s.length
    · have hbk := ba_lt hlt
      have HC : Hid (s[k] = (⟨s.toArray⟩ : ByteArray)[k]'hbk) := rfl
      have hex := ex_one s k hlt
      have HE : Hid _ := dol_take (v := v) hlt
      have hwr : IntKind.i64.wrap ((k : Int) + 1) = (k : Int) + 1 := by rw [IntKind.wrap_i64]; omega
      have hi1 : (k : Int) + 1 ≤ s.length := by omega
      have hi2 : ¬ ((k : Int) + 1 < 0) := by omega
      have hi3 : ((k : Int) + 1).toNat = k + 1 := by omega
      have hi4 : (k : Int) ≤ (k : Int) + 1 := by omega
      by_cases hc : s[k] = 36
      · have hc' : ((((⟨s.toArray⟩ : ByteArray)[k]'hbk).toNat : Int) == 36) = true := by rw [← HC.out, hc]; rfl
        have HN : Hid (t ++ v = dol (s.take (k + 1)) v) := by show _ = _; rw [HE.out, HT.out, if_pos hc]
        have a1 : (⟨t.toArray⟩ : ByteArray) ++ ⟨v.toArray⟩ = ⟨(t ++ v).toArray⟩ := ba_append t v
        have hn2 : (t ++ v).length ≤ 1001 * (k + 1) := by simp; omega
        clear HC HE HT hc hex
        generalize t ++ v = r at *
        go_wp2_with fail
        go_round
        case rel => exact ⟨k + 1, r, by omega, by go_num, rfl, HN, hn2⟩
        case measure => simp [intOf]; omega
      · have hc' : ((((⟨s.toArray⟩ : ByteArray)[k]'hbk).toNat : Int) == 36) = false := by
          rw [← HC.out, beq_eq_false_iff_ne]
          intro e
          exact hc (UInt8.toNat_inj.1 (by show s[k].toNat = 36; omega))
        have HN : Hid (t ++ [s[k]] = dol (s.take (k + 1)) v) := by show _ = _; rw [HE.out, HT.out, if_neg hc]
        have a1 : (⟨t.toArray⟩ : ByteArray) ++ ⟨[s[k]].toArray⟩ = ⟨(t ++ [s[k]]).toArray⟩ := ba_append _ _
        have hn2 : (t ++ [s[k]]).length ≤ 1001 * (k + 1) := by simp; omega
        clear HC HE HT hc
        generalize s[k] = y at *
        generalize t ++ [y] = r at *
        go_wp2_with fail
        go_round
        case rel => exact ⟨k + 1, r, by omega, by go_num, rfl, HN, hn2⟩
        case measure => simp [intOf]; omega
    · have HR : Hid (dol s v = t) := by show _ = _; rw [HT.out, List.take_of_length_le (by omega)]
      clear HT
      go_wp2_with fail
      go_ret
      exact ⟨by rw [HR.out]; rfl, rfl⟩

theorem rule_kind {r : Rl} (h : fRule r = true) (h4 : r.act ≠ 4) : 1 ≤ r.frm.kind ∧ r.frm.kind ≤ 4 ∧ (r.act = 1 ∨ r.act = 2 ∨ r.act = 3) := by
  have hm : ∀ m : Mat, fMat m = true → 1 ≤ m.kind ∧ m.kind ≤ 4 := fun m hm => by
    unfold fMat fKind at hm
    simp only [Bool.and_eq_true, decide_eq_true_iff] at hm
    exact hm.1.1.2
  unfold fRule at h
  by_cases h1 : r.act = 1
  · rw [if_pos h1, Bool.and_eq_true] at h
    exact ⟨(hm _ h.1).1, (hm _ h.1).2, Or.inl h1⟩
  · by_cases h2 : r.act = 2
    · rw [if_neg h1, if_pos h2, Bool.and_eq_true] at h
      exact ⟨(hm _ h.1).1, (hm _ h.1).2, Or.inr (Or.inl h2)⟩
    · by_cases h3 : r.act = 3
      · rw [if_neg h1, if_neg h2, if_pos h3, Bool.and_eq_true, Bool.and_eq_true] at h
        exact ⟨(hm _ h.1.1).1, (hm _ h.1.1).2, Or.inr (Or.inr h3)⟩
      · rw [if_neg h1, if_neg h2, if_neg h3, if_neg h4] at h
        cases h
set_option maxRecDepth 100000 in
set_option maxHeartbeats 8000000 in
theorem printRule_any (r : Rl) (w : World) (hf : FitR r) : Calls Tryz.prog 15 #[rv r] w fun e w' => e = .returned (tx (fPrintR r)) ∧ Below w.heap.size w w' := by
  have hir := fun W => refRule_any r W hf
  have hbx := BoxR.new w r
  have hb0 := bal (Below.refl _ w) (cR r)
  unfold fPrintR
  cases hr : fRule r with
  | false =>
    rw [hr] at hir
    clear hr hf
    obtain ⟨act, ⟨nn, kk, tt⟩, tgt, txt⟩ := r
    go_enter Tryz.func15, Tryz.ntmps15
    go_wp2_with fail
    generalize w.alloc (.cells _ 35) = w0 at *
    refine (hir _).mono ?_
    rintro e w1 ⟨rfl, hb1⟩
    go_wp2_with fail
    go_ret
    exact ⟨by simp, Below.chain hb0 hb1⟩
  | true =>
    rw [hr] at hir
    rw [if_pos rfl]
    obtain ⟨hl1, hl6, hl3, hl4⟩ := rule_short hr
    have hqf : ∀ W, Calls Tryz.prog 33 #[tx r.frm.text] W fun e w' => e = .returned (tx (quo r.frm.text)) ∧ W = w' := fun W => refQuote_any r.frm.text W (by omega)
    have hqt : ∀ W, Calls Tryz.prog 33 #[tx r.txt] W fun e w' => e = .returned (tx (quo r.txt)) ∧ W = w' := fun W => refQuote_any r.txt W (by omega)
    have hl2 := quo_len r.txt
    have hl5 := quo_len r.frm.text
    unfold lineT
    by_cases h4 : r.act = 4
    · have n1 : ¬ r.act = 1 := by omega
      have n2 : ¬ r.act = 2 := by omega
      have n3 : ¬ r.act = 3 := by omega
      rw [if_neg n1, if_neg n2, if_neg n3]
      clear hr hf n1 n2 n3
      obtain ⟨act, ⟨nn, kk, tt⟩, tgt, txt⟩ := r
      dsimp only at *
      subst h4
      generalize quo tt = qf at *
      have a1 : (⟨#[108, 97, 98, 101, 108, 100, 114, 111, 112, 32]⟩ : ByteArray) ++ ⟨qf.toArray⟩ = ⟨(ldropT ++ qf).toArray⟩ := ba_append ldropT qf
      generalize ldropT ++ qf = q1 at *
      go_enter Tryz.func15, Tryz.ntmps15
      go_wp2_with fail
      generalize w.alloc (.cells _ 35) = w0 at *
      refine (hir _).mono ?_
      rintro e w1 ⟨rfl, hb1⟩
      have hbx1 := hbx.later hb1
      obtain ⟨c0, c1, c2, c3, c4, c5⟩ := hbx1
      dsimp only at c0 c1 c2 c3 c4 c5
      go_wp2_with fail
      refine (hqf _).mono ?_
      rintro e w2 ⟨rfl, rfl⟩
      go_wp2_with fail
      go_ret
      exact ⟨rfl, Below.chain hb0 hb1⟩
    · obtain ⟨hk1, hk4, hact⟩ := rule_kind hr h4
      have hop := fun W => refOp_any r.frm.kind W hk1 hk4
      have hsl := sign_len r.frm.kind
      have HCd : Hid (condT r.frm = r.frm.name ++ [32] ++ signT r.frm.kind ++ [32] ++ quo r.frm.text) := rfl
      have t4 : (r.act == 4) = false := by simpa using h4
      clear hr hf h4 hk1 hk4
      obtain ⟨act, ⟨nn, kk, tt⟩, tgt, txt⟩ := r
      dsimp only at *
      generalize condT ⟨nn, kk, tt⟩ = cd at *
      generalize signT kk = sg at *
      generalize quo tt = qf at *
      generalize quo txt = qt at *
      obtain ⟨q1, H1⟩ : ∃ q, Hid (q = nn ++ [32]) := ⟨nn ++ [32], (rfl : nn ++ [32] = nn ++ [32])⟩
      obtain ⟨q2, H2⟩ : ∃ q, Hid (q = q1 ++ sg) := ⟨q1 ++ sg, (rfl : q1 ++ sg = q1 ++ sg)⟩
      obtain ⟨q3, H3⟩ : ∃ q, Hid (q = q2 ++ [32]) := ⟨q2 ++ [32], (rfl : q2 ++ [32] = q2 ++ [32])⟩
      obtain ⟨q4, H4⟩ : ∃ q, Hid (q = q3 ++ qf) := ⟨q3 ++ qf, (rfl : q3 ++ qf = q3 ++ qf)⟩
      have k1 : q1.length ≤ 101 := by rw [H1.out]; simp; omega
      have k2 : q2.length ≤ 103 := by rw [H2.out]; simp; omega
      have k3 : q3.length ≤ 104 := by rw [H3.out]; simp; omega
      have k4 : q4.length ≤ 306 := by rw [H4.out]; simp; omega
      have HQ : Hid (cd = q4) := by show _ = _; rw [HCd.out, H4.out, H3.out, H2.out, H1.out]
      clear HCd
      rw [HQ.out]
      clear HQ
      rcases hact with rfl | rfl | rfl
      · have a1 : (⟨#[107, 101, 101, 112, 32]⟩ : ByteArray) ++ ⟨q4.toArray⟩ = ⟨(keepT ++ q4).toArray⟩ := ba_append keepT q4
        rw [if_pos rfl]
        obtain ⟨z, HR⟩ : ∃ z, Hid (keepT ++ q4 = z) := ⟨keepT ++ q4, (rfl : keepT ++ q4 = keepT ++ q4)⟩
        rw [HR.out] at a1
        go_enter Tryz.func15, Tryz.ntmps15
        go_wp2_with fail
        generalize w.alloc (.cells _ 35) = w0 at *
        refine (hir _).mono ?_
        rintro e w1 ⟨rfl, hb1⟩
        have B1 := Below.chain hb0 hb1
        have hbx1 := hbx.later hb1
        have hbx1' := hbx1
        obtain ⟨c0, c1, c2, c3, c4, c5⟩ := hbx1'
        dsimp only at c0 c1 c2 c3 c4 c5
        go_wp2_with fail
        have C0 : Below w1.heap.size w1 w1.drew := (Below.refl _ _).drew
        refine wp_region_noPanic ?_
        refine wp_region_held_drew (S := fun W => Below w1.heap.size w1 W) (by kernel_rfl) ?_ (fun _ => ?_)
        · exact C0
        generalize w1.drew = wd at *
        refine take_at 0 (some 15) (.pointer (some ⟨w.heap.size, 1, none⟩)) rfl rfl (by kernel_rfl) (by kernel_rfl) (by kernel_rfl) (fun _ _ _ h => h) (by rfl) (fun W hSw => by go_simp) C0 ?_
        simp only [Act.put, List.setIfInBounds_toArray, List.set_cons_zero, List.set_cons_succ]
        refine take_at 1 (some 16) (.pointer (some ⟨w.heap.size, 1, none⟩)) rfl rfl (by kernel_rfl) (by kernel_rfl) (by kernel_rfl) (fun _ _ _ h => h) (by rfl) (fun W hSw => by go_simp) C0 ?_
        simp only [Act.put, List.setIfInBounds_toArray, List.set_cons_zero, List.set_cons_succ]
        refine take_at 2 (some 17) (tx nn) rfl rfl (by kernel_rfl) (by kernel_rfl) (by kernel_rfl) (fun _ _ _ h => h) (by rfl) (fun W hSw => by have c0 := (hbx1.later hSw).c1; dsimp only at c0; go_simp) C0 ?_
        simp only [Act.put, List.setIfInBounds_toArray, List.set_cons_zero, List.set_cons_succ]
        refine take_at 3 (some 18) (tx q1) rfl rfl (by kernel_rfl) (by kernel_rfl) (by kernel_rfl) (fun _ _ _ h => h) (by rfl) (fun W hSw => by exact exec_add rfl nn [32] rfl rfl (by simp; omega) q1 H1.out W) C0 ?_
        simp only [Act.put, List.setIfInBounds_toArray, List.set_cons_zero, List.set_cons_succ]
        refine take_at 4 (some 19) (.pointer (some ⟨w.heap.size, 1, none⟩)) rfl rfl (by kernel_rfl) (by kernel_rfl) (by kernel_rfl) (fun _ _ _ h => h) (by rfl) (fun W hSw => by go_simp) C0 ?_
        simp only [Act.put, List.setIfInBounds_toArray, List.set_cons_zero, List.set_cons_succ]
        refine take_at 5 (some 20) (.pointer (some ⟨w.heap.size, 2, none⟩)) rfl rfl (by kernel_rfl) (by kernel_rfl) (by kernel_rfl) (fun _ _ _ h => h) (by rfl) (fun W hSw => by go_simp) C0 ?_
        simp only [Act.put, List.setIfInBounds_toArray, List.set_cons_zero, List.set_cons_succ]
        refine take_at 6 (some 21) (.int .i64 kk) rfl rfl (by kernel_rfl) (by kernel_rfl) (by kernel_rfl) (fun _ _ _ h => h) (by rfl) (fun W hSw => by have c0 := (hbx1.later hSw).c2; dsimp only at c0; go_simp) C0 ?_
        simp only [Act.put, List.setIfInBounds_toArray, List.set_cons_zero, List.set_cons_succ]
        refine take_at 10 (some 25) (.pointer (some ⟨w.heap.size, 1, none⟩)) rfl rfl (by kernel_rfl) (by kernel_rfl) (by kernel_rfl) (fun _ _ _ h => h) (by rfl) (fun W hSw => by go_simp) C0 ?_
        simp only [Act.put, List.setIfInBounds_toArray, List.set_cons_zero, List.set_cons_succ]
        refine take_at 11 (some 26) (.pointer (some ⟨w.heap.size, 3, none⟩)) rfl rfl (by kernel_rfl) (by kernel_rfl) (by kernel_rfl) (fun _ _ _ h => h) (by rfl) (fun W hSw => by go_simp) C0 ?_
        simp only [Act.put, List.setIfInBounds_toArray, List.set_cons_zero, List.set_cons_succ]
        refine take_at 12 (some 27) (tx tt) rfl rfl (by kernel_rfl) (by kernel_rfl) (by kernel_rfl) (fun _ _ _ h => h) (by rfl) (fun W hSw => by have c0 := (hbx1.later hSw).c3; dsimp only at c0; go_simp) C0 ?_
        simp only [Act.put, List.setIfInBounds_toArray, List.set_cons_zero, List.set_cons_succ]
        refine wpAnyH_ready (rs := [7]) (by kernel_rfl) (by simp) ?_
        refine AllReadyH.cons rfl (fun K hK => ?_) AllReadyH.nil
        go_simp
        refine (hop _).mono ?_
        rintro e wc1 ⟨rfl, hc1⟩
        have C1 := Below.chain C0 hc1
        refine hK.out _ _ ?_ (fun _ => ?_)
        · exact C1
        clear hK K
        refine take_at 8 (some 23) (tx q2) rfl rfl (by kernel_rfl) (by kernel_rfl) (by kernel_rfl) (fun _ _ _ h => h) (by rfl) (fun W hSw => by exact exec_add rfl q1 sg rfl rfl (by omega) q2 H2.out W) C1 ?_
        simp only [Act.put, List.setIfInBounds_toArray, List.set_cons_zero, List.set_cons_succ]
        refine take_at 9 (some 24) (tx q3) rfl rfl (by kernel_rfl) (by kernel_rfl) (by kernel_rfl) (fun _ _ _ h => h) (by rfl) (fun W hSw => by exact exec_add rfl q2 [32] rfl rfl (by simp; omega) q3 H3.out W) C1 ?_
        simp only [Act.put, List.setIfInBounds_toArray, List.set_cons_zero, List.set_cons_succ]
        refine wpAnyH_ready (rs := [13]) (by kernel_rfl) (by simp) ?_
        refine AllReadyH.cons rfl (fun K hK => ?_) AllReadyH.nil
        go_simp
        refine (hqf _).mono ?_
        rintro e wc2 ⟨rfl, rfl⟩
        refine hK.out _ _ ?_ (fun _ => ?_)
        · exact C1
        clear hK K
        refine take_at 14 (some 29) (tx q4) rfl rfl (by kernel_rfl) (by kernel_rfl) (by kernel_rfl) (fun _ _ _ h => h) (by rfl) (fun W hSw => by exact exec_add rfl q3 qf rfl rfl (by omega) q4 H4.out W) C1 ?_
        simp only [Act.put, List.setIfInBounds_toArray, List.set_cons_zero, List.set_cons_succ]
        refine take_at 15 (some 3) (tx q4) rfl rfl (by kernel_rfl) (by kernel_rfl) (by kernel_rfl) (fun _ _ _ h => h) (by rfl) (fun W hSw => by go_simp) C1 ?_
        simp only [Act.put, List.setIfInBounds_toArray, List.set_cons_zero, List.set_cons_succ]
        refine wpAnyH_done (by kernel_rfl) ?_ _
        refine NoPanic.normal ?_
        have B2 := Below.chain B1 C1
        have hbx2 := hbx1.later C1
        generalize wc1 = w2 at *
        have hbx2' := hbx2
        obtain ⟨d0, d1, d2, d3, d4, d5⟩ := hbx2'
        dsimp only at d0 d1 d2 d3 d4 d5
        clear C0 C1 hc1 c0 c1 c2 c3 c4 c5 hbx hbx1
        go_wp2_with fail
        go_ret
        exact ⟨by rw [HR.out]; rfl, B2⟩
      · have a1 : (⟨#[100, 114, 111, 112, 32]⟩ : ByteArray) ++ ⟨q4.toArray⟩ = ⟨(dropT ++ q4).toArray⟩ := ba_append dropT q4
        rw [if_neg (by decide), if_pos rfl]
        obtain ⟨z, HR⟩ : ∃ z, Hid (dropT ++ q4 = z) := ⟨dropT ++ q4, (rfl : dropT ++ q4 = dropT ++ q4)⟩
        rw [HR.out] at a1
        go_enter Tryz.func15, Tryz.ntmps15
        go_wp2_with fail
        generalize w.alloc (.cells _ 35) = w0 at *
        refine (hir _).mono ?_
        rintro e w1 ⟨rfl, hb1⟩
        have B1 := Below.chain hb0 hb1
        have hbx1 := hbx.later hb1
        have hbx1' := hbx1
        obtain ⟨c0, c1, c2, c3, c4, c5⟩ := hbx1'
        dsimp only at c0 c1 c2 c3 c4 c5
        go_wp2_with fail
        have C0 : Below w1.heap.size w1 w1.drew := (Below.refl _ _).drew
        refine wp_region_noPanic ?_
        refine wp_region_held_drew (S := fun W => Below w1.heap.size w1 W) (by kernel_rfl) ?_ (fun _ => ?_)
        · exact C0
        generalize w1.drew = wd at *
        refine take_at 0 (some 15) (.pointer (some ⟨w.heap.size, 1, none⟩)) rfl rfl (by kernel_rfl) (by kernel_rfl) (by kernel_rfl) (fun _ _ _ h => h) (by rfl) (fun W hSw => by go_simp) C0 ?_
        simp only [Act.put, List.setIfInBounds_toArray, List.set_cons_zero, List.set_cons_succ]
        refine take_at 1 (some 16) (.pointer (some ⟨w.heap.size, 1, none⟩)) rfl rfl (by kernel_rfl) (by kernel_rfl) (by kernel_rfl) (fun _ _ _ h => h) (by rfl) (fun W hSw => by go_simp) C0 ?_
        simp only [Act.put, List.setIfInBounds_toArray, List.set_cons_zero, List.set_cons_succ]
        refine take_at 2 (some 17) (tx nn) rfl rfl (by kernel_rfl) (by kernel_rfl) (by kernel_rfl) (fun _ _ _ h => h) (by rfl) (fun W hSw => by have c0 := (hbx1.later hSw).c1; dsimp only at c0; go_simp) C0 ?_
        simp only [Act.put, List.setIfInBounds_toArray, List.set_cons_zero, List.set_cons_succ]
        refine take_at 3 (some 18) (tx q1) rfl rfl (by kernel_rfl) (by kernel_rfl) (by kernel_rfl) (fun _ _ _ h => h) (by rfl) (fun W hSw => by exact exec_add rfl nn [32] rfl rfl (by simp; omega) q1 H1.out W) C0 ?_
        simp only [Act.put, List.setIfInBounds_toArray, List.set_cons_zero, List.set_cons_succ]
        refine take_at 4 (some 19) (.pointer (some ⟨w.heap.size, 1, none⟩)) rfl rfl (by kernel_rfl) (by kernel_rfl) (by kernel_rfl) (fun _ _ _ h => h) (by rfl) (fun W hSw => by go_simp) C0 ?_
        simp only [Act.put, List.setIfInBounds_toArray, List.set_cons_zero, List.set_cons_succ]
        refine take_at 5 (some 20) (.pointer (some ⟨w.heap.size, 2, none⟩)) rfl rfl (by kernel_rfl) (by kernel_rfl) (by kernel_rfl) (fun _ _ _ h => h) (by rfl) (fun W hSw => by go_simp) C0 ?_
        simp only [Act.put, List.setIfInBounds_toArray, List.set_cons_zero, List.set_cons_succ]
        refine take_at 6 (some 21) (.int .i64 kk) rfl rfl (by kernel_rfl) (by kernel_rfl) (by kernel_rfl) (fun _ _ _ h => h) (by rfl) (fun W hSw => by have c0 := (hbx1.later hSw).c2; dsimp only at c0; go_simp) C0 ?_
        simp only [Act.put, List.setIfInBounds_toArray, List.set_cons_zero, List.set_cons_succ]
        refine take_at 10 (some 25) (.pointer (some ⟨w.heap.size, 1, none⟩)) rfl rfl (by kernel_rfl) (by kernel_rfl) (by kernel_rfl) (fun _ _ _ h => h) (by rfl) (fun W hSw => by go_simp) C0 ?_
        simp only [Act.put, List.setIfInBounds_toArray, List.set_cons_zero, List.set_cons_succ]
        refine take_at 11 (some 26) (.pointer (some ⟨w.heap.size, 3, none⟩)) rfl rfl (by kernel_rfl) (by kernel_rfl) (by kernel_rfl) (fun _ _ _ h => h) (by rfl) (fun W hSw => by go_simp) C0 ?_
        simp only [Act.put, List.setIfInBounds_toArray, List.set_cons_zero, List.set_cons_succ]
        refine take_at 12 (some 27) (tx tt) rfl rfl (by kernel_rfl) (by kernel_rfl) (by kernel_rfl) (fun _ _ _ h => h) (by rfl) (fun W hSw => by have c0 := (hbx1.later hSw).c3; dsimp only at c0; go_simp) C0 ?_
        simp only [Act.put, List.setIfInBounds_toArray, List.set_cons_zero, List.set_cons_succ]
        refine wpAnyH_ready (rs := [7]) (by kernel_rfl) (by simp) ?_
        refine AllReadyH.cons rfl (fun K hK => ?_) AllReadyH.nil
        go_simp
        refine (hop _).mono ?_
        rintro e wc1 ⟨rfl, hc1⟩
        have C1 := Below.chain C0 hc1
        refine hK.out _ _ ?_ (fun _ => ?_)
        · exact C1
        clear hK K
        refine take_at 8 (some 23) (tx q2) rfl rfl (by kernel_rfl) (by kernel_rfl) (by kernel_rfl) (fun _ _ _ h => h) (by rfl) (fun W hSw => by exact exec_add rfl q1 sg rfl rfl (by omega) q2 H2.out W) C1 ?_
        simp only [Act.put, List.setIfInBounds_toArray, List.set_cons_zero, List.set_cons_succ]
        refine take_at 9 (some 24) (tx q3) rfl rfl (by kernel_rfl) (by kernel_rfl) (by kernel_rfl) (fun _ _ _ h => h) (by rfl) (fun W hSw => by exact exec_add rfl q2 [32] rfl rfl (by simp; omega) q3 H3.out W) C1 ?_
        simp only [Act.put, List.setIfInBounds_toArray, List.set_cons_zero, List.set_cons_succ]
        refine wpAnyH_ready (rs := [13]) (by kernel_rfl) (by simp) ?_
        refine AllReadyH.cons rfl (fun K hK => ?_) AllReadyH.nil
        go_simp
        refine (hqf _).mono ?_
        rintro e wc2 ⟨rfl, rfl⟩
        refine hK.out _ _ ?_ (fun _ => ?_)
        · exact C1
        clear hK K
        refine take_at 14 (some 29) (tx q4) rfl rfl (by kernel_rfl) (by kernel_rfl) (by kernel_rfl) (fun _ _ _ h => h) (by rfl) (fun W hSw => by exact exec_add rfl q3 qf rfl rfl (by omega) q4 H4.out W) C1 ?_
        simp only [Act.put, List.setIfInBounds_toArray, List.set_cons_zero, List.set_cons_succ]
        refine take_at 15 (some 3) (tx q4) rfl rfl (by kernel_rfl) (by kernel_rfl) (by kernel_rfl) (fun _ _ _ h => h) (by rfl) (fun W hSw => by go_simp) C1 ?_
        simp only [Act.put, List.setIfInBounds_toArray, List.set_cons_zero, List.set_cons_succ]
        refine wpAnyH_done (by kernel_rfl) ?_ _
        refine NoPanic.normal ?_
        have B2 := Below.chain B1 C1
        have hbx2 := hbx1.later C1
        generalize wc1 = w2 at *
        have hbx2' := hbx2
        obtain ⟨d0, d1, d2, d3, d4, d5⟩ := hbx2'
        dsimp only at d0 d1 d2 d3 d4 d5
        clear C0 C1 hc1 c0 c1 c2 c3 c4 c5 hbx hbx1
        go_wp2_with fail
        go_ret
        exact ⟨by rw [HR.out]; rfl, B2⟩
      · rw [if_neg (by decide), if_neg (by decide), if_pos rfl]
        obtain ⟨p1, K1⟩ : ∃ q, Hid (q = replT ++ q4) := ⟨replT ++ q4, (rfl : replT ++ q4 = replT ++ q4)⟩
        obtain ⟨p2, K2⟩ : ∃ q, Hid (q = p1 ++ [32]) := ⟨p1 ++ [32], (rfl : p1 ++ [32] = p1 ++ [32])⟩
        obtain ⟨p3, K3⟩ : ∃ q, Hid (q = p2 ++ tgt) := ⟨p2 ++ tgt, (rfl : p2 ++ tgt = p2 ++ tgt)⟩
        obtain ⟨p4, K4⟩ : ∃ q, Hid (q = p3 ++ [32]) := ⟨p3 ++ [32], (rfl : p3 ++ [32] = p3 ++ [32])⟩
        obtain ⟨p5, K5⟩ : ∃ q, Hid (q = p4 ++ qt) := ⟨p4 ++ qt, (rfl : p4 ++ qt = p4 ++ qt)⟩
        have j1 : p1.length ≤ 314 := by rw [K1.out]; simp [replT]; omega
        have j2 : p2.length ≤ 315 := by rw [K2.out]; simp; omega
        have j3 : p3.length ≤ 415 := by rw [K3.out]; simp; omega
        have j4 : p4.length ≤ 416 := by rw [K4.out]; simp; omega
        have HR : Hid (replT ++ q4 ++ [32] ++ tgt ++ [32] ++ qt = p5) := by show _ = _; rw [K5.out, K4.out, K3.out, K2.out, K1.out]
        go_enter Tryz.func15, Tryz.ntmps15
        go_wp2_with fail
        generalize w.alloc (.cells _ 35) = w0 at *
        refine (hir _).mono ?_
        rintro e w1 ⟨rfl, hb1⟩
        have B1 := Below.chain hb0 hb1
        have hbx1 := hbx.later hb1
        have hbx1' := hbx1
        obtain ⟨c0, c1, c2, c3, c4, c5⟩ := hbx1'
        dsimp only at c0 c1 c2 c3 c4 c5
        go_wp2_with fail
        have C0 : Below w1.heap.size w1 w1.drew := (Below.refl _ _).drew
        refine wp_region_noPanic ?_
        refine wp_region_held_drew (S := fun W => Below w1.heap.size w1 W) (by kernel_rfl) ?_ (fun _ => ?_)
        · exact C0
        generalize w1.drew = wd at *
        refine take_at 0 (some 15) (.pointer (some ⟨w.heap.size, 1, none⟩)) rfl rfl (by kernel_rfl) (by kernel_rfl) (by kernel_rfl) (fun _ _ _ h => h) (by rfl) (fun W hSw => by go_simp) C0 ?_
        simp only [Act.put, List.setIfInBounds_toArray, List.set_cons_zero, List.set_cons_succ]
        refine take_at 1 (some 16) (.pointer (some ⟨w.heap.size, 1, none⟩)) rfl rfl (by kernel_rfl) (by kernel_rfl) (by kernel_rfl) (fun _ _ _ h => h) (by rfl) (fun W hSw => by go_simp) C0 ?_
        simp only [Act.put, List.setIfInBounds_toArray, List.set_cons_zero, List.set_cons_succ]
        refine take_at 2 (some 17) (tx nn) rfl rfl (by kernel_rfl) (by kernel_rfl) (by kernel_rfl) (fun _ _ _ h => h) (by rfl) (fun W hSw => by have c0 := (hbx1.later hSw).c1; dsimp only at c0; go_simp) C0 ?_
        simp only [Act.put, List.setIfInBounds_toArray, List.set_cons_zero, List.set_cons_succ]
        refine take_at 3 (some 18) (tx q1) rfl rfl (by kernel_rfl) (by kernel_rfl) (by kernel_rfl) (fun _ _ _ h => h) (by rfl) (fun W hSw => by exact exec_add rfl nn [32] rfl rfl (by simp; omega) q1 H1.out W) C0 ?_
        simp only [Act.put, List.setIfInBounds_toArray, List.set_cons_zero, List.set_cons_succ]
        refine take_at 4 (some 19) (.pointer (some ⟨w.heap.size, 1, none⟩)) rfl rfl (by kernel_rfl) (by kernel_rfl) (by kernel_rfl) (fun _ _ _ h => h) (by rfl) (fun W hSw => by go_simp) C0 ?_
        simp only [Act.put, List.setIfInBounds_toArray, List.set_cons_zero, List.set_cons_succ]
        refine take_at 5 (some 20) (.pointer (some ⟨w.heap.size, 2, none⟩)) rfl rfl (by kernel_rfl) (by kernel_rfl) (by kernel_rfl) (fun _ _ _ h => h) (by rfl) (fun W hSw => by go_simp) C0 ?_
        simp only [Act.put, List.setIfInBounds_toArray, List.set_cons_zero, List.set_cons_succ]
        refine take_at 6 (some 21) (.int .i64 kk) rfl rfl (by kernel_rfl) (by kernel_rfl) (by kernel_rfl) (fun _ _ _ h => h) (by rfl) (fun W hSw => by have c0 := (hbx1.later hSw).c2; dsimp only at c0; go_simp) C0 ?_
        simp only [Act.put, List.setIfInBounds_toArray, List.set_cons_zero, List.set_cons_succ]
        refine take_at 10 (some 25) (.pointer (some ⟨w.heap.size, 1, none⟩)) rfl rfl (by kernel_rfl) (by kernel_rfl) (by kernel_rfl) (fun _ _ _ h => h) (by rfl) (fun W hSw => by go_simp) C0 ?_
        simp only [Act.put, List.setIfInBounds_toArray, List.set_cons_zero, List.set_cons_succ]
        refine take_at 11 (some 26) (.pointer (some ⟨w.heap.size, 3, none⟩)) rfl rfl (by kernel_rfl) (by kernel_rfl) (by kernel_rfl) (fun _ _ _ h => h) (by rfl) (fun W hSw => by go_simp) C0 ?_
        simp only [Act.put, List.setIfInBounds_toArray, List.set_cons_zero, List.set_cons_succ]
        refine take_at 12 (some 27) (tx tt) rfl rfl (by kernel_rfl) (by kernel_rfl) (by kernel_rfl) (fun _ _ _ h => h) (by rfl) (fun W hSw => by have c0 := (hbx1.later hSw).c3; dsimp only at c0; go_simp) C0 ?_
        simp only [Act.put, List.setIfInBounds_toArray, List.set_cons_zero, List.set_cons_succ]
        refine wpAnyH_ready (rs := [7]) (by kernel_rfl) (by simp) ?_
        refine AllReadyH.cons rfl (fun K hK => ?_) AllReadyH.nil
        go_simp
        refine (hop _).mono ?_
        rintro e wc1 ⟨rfl, hc1⟩
        have C1 := Below.chain C0 hc1
        refine hK.out _ _ ?_ (fun _ => ?_)
        · exact C1
        clear hK K
        refine take_at 8 (some 23) (tx q2) rfl rfl (by kernel_rfl) (by kernel_rfl) (by kernel_rfl) (fun _ _ _ h => h) (by rfl) (fun W hSw => by exact exec_add rfl q1 sg rfl rfl (by omega) q2 H2.out W) C1 ?_
        simp only [Act.put, List.setIfInBounds_toArray, List.set_cons_zero, List.set_cons_succ]
        refine take_at 9 (some 24) (tx q3) rfl rfl (by kernel_rfl) (by kernel_rfl) (by kernel_rfl) (fun _ _ _ h => h) (by rfl) (fun W hSw => by exact exec_add rfl q2 [32] rfl rfl (by simp; omega) q3 H3.out W) C1 ?_
        simp only [Act.put, List.setIfInBounds_toArray, List.set_cons_zero, List.set_cons_succ]
        refine wpAnyH_ready (rs := [13]) (by kernel_rfl) (by simp) ?_
        refine AllReadyH.cons rfl (fun K hK => ?_) AllReadyH.nil
        go_simp
        refine (hqf _).mono ?_
        rintro e wc2 ⟨rfl, rfl⟩
        refine hK.out _ _ ?_ (fun _ => ?_)
        · exact C1
        clear hK K
        refine take_at 14 (some 29) (tx q4) rfl rfl (by kernel_rfl) (by kernel_rfl) (by kernel_rfl) (fun _ _ _ h => h) (by rfl) (fun W hSw => by exact exec_add rfl q3 qf rfl rfl (by omega) q4 H4.out W) C1 ?_
        simp only [Act.put, List.setIfInBounds_toArray, List.set_cons_zero, List.set_cons_succ]
        refine take_at 15 (some 3) (tx q4) rfl rfl (by kernel_rfl) (by kernel_rfl) (by kernel_rfl) (fun _ _ _ h => h) (by rfl) (fun W hSw => by go_simp) C1 ?_
        simp only [Act.put, List.setIfInBounds_toArray, List.set_cons_zero, List.set_cons_succ]
        refine wpAnyH_done (by kernel_rfl) ?_ _
        refine NoPanic.normal ?_
        have B2 := Below.chain B1 C1
        have hbx2 := hbx1.later C1
        generalize wc1 = w2 at *
        have hbx2' := hbx2
        obtain ⟨d0, d1, d2, d3, d4, d5⟩ := hbx2'
        dsimp only at d0 d1 d2 d3 d4 d5
        clear C0 C1 hc1 c0 c1 c2 c3 c4 c5 hbx hbx1
        go_wp2_with fail
        have C0 : Below w2.heap.size w2 w2.drew := (Below.refl _ _).drew
        refine wp_region_noPanic ?_
        refine wp_region_held_drew (S := fun W => Below w2.heap.size w2 W) (by kernel_rfl) ?_ (fun _ => ?_)
        · exact C0
        generalize w2.drew = we at *
        refine take_at 0 (some 40) (tx q4) rfl rfl (by kernel_rfl) (by kernel_rfl) (by kernel_rfl) (fun _ _ _ h => h) (by rfl) (fun W hSw => by go_simp) C0 ?_
        simp only [Act.put, List.setIfInBounds_toArray, List.set_cons_zero, List.set_cons_succ]
        refine take_at 1 (some 41) (tx p1) rfl rfl (by kernel_rfl) (by kernel_rfl) (by kernel_rfl) (fun _ _ _ h => h) (by rfl) (fun W hSw => by exact exec_add rfl replT q4 rfl rfl (by simp [replT]; omega) p1 K1.out W) C0 ?_
        simp only [Act.put, List.setIfInBounds_toArray, List.set_cons_zero, List.set_cons_succ]
        refine take_at 2 (some 42) (tx p2) rfl rfl (by kernel_rfl) (by kernel_rfl) (by kernel_rfl) (fun _ _ _ h => h) (by rfl) (fun W hSw => by exact exec_add rfl p1 [32] rfl rfl (by simp; omega) p2 K2.out W) C0 ?_
        simp only [Act.put, List.setIfInBounds_toArray, List.set_cons_zero, List.set_cons_succ]
        refine take_at 3 (some 43) (.pointer (some ⟨w.heap.size, 4, none⟩)) rfl rfl (by kernel_rfl) (by kernel_rfl) (by kernel_rfl) (fun _ _ _ h => h) (by rfl) (fun W hSw => by go_simp) C0 ?_
        simp only [Act.put, List.setIfInBounds_toArray, List.set_cons_zero, List.set_cons_succ]
        refine take_at 4 (some 44) (tx tgt) rfl rfl (by kernel_rfl) (by kernel_rfl) (by kernel_rfl) (fun _ _ _ h => h) (by rfl) (fun W hSw => by have c0 := (hbx2.later hSw).c4; dsimp only at c0; go_simp) C0 ?_
        simp only [Act.put, List.setIfInBounds_toArray, List.set_cons_zero, List.set_cons_succ]
        refine take_at 5 (some 45) (tx p3) rfl rfl (by kernel_rfl) (by kernel_rfl) (by kernel_rfl) (fun _ _ _ h => h) (by rfl) (fun W hSw => by exact exec_add rfl p2 tgt rfl rfl (by omega) p3 K3.out W) C0 ?_
        simp only [Act.put, List.setIfInBounds_toArray, List.set_cons_zero, List.set_cons_succ]
        refine take_at 6 (some 46) (tx p4) rfl rfl (by kernel_rfl) (by kernel_rfl) (by kernel_rfl) (fun _ _ _ h => h) (by rfl) (fun W hSw => by exact exec_add rfl p3 [32] rfl rfl (by simp; omega) p4 K4.out W) C0 ?_
        simp only [Act.put, List.setIfInBounds_toArray, List.set_cons_zero, List.set_cons_succ]
        refine take_at 7 (some 47) (.pointer (some ⟨w.heap.size, 5, none⟩)) rfl rfl (by kernel_rfl) (by kernel_rfl) (by kernel_rfl) (fun _ _ _ h => h) (by rfl) (fun W hSw => by go_simp) C0 ?_
        simp only [Act.put, List.setIfInBounds_toArray, List.set_cons_zero, List.set_cons_succ]
        refine take_at 8 (some 48) (tx txt) rfl rfl (by kernel_rfl) (by kernel_rfl) (by kernel_rfl) (fun _ _ _ h => h) (by rfl) (fun W hSw => by have c0 := (hbx2.later hSw).c5; dsimp only at c0; go_simp) C0 ?_
        simp only [Act.put, List.setIfInBounds_toArray, List.set_cons_zero, List.set_cons_succ]
        refine wpAnyH_ready (rs := [9]) (by kernel_rfl) (by simp) ?_
        refine AllReadyH.cons rfl (fun K hK => ?_) AllReadyH.nil
        go_simp
        refine (hqt _).mono ?_
        rintro e wc1 ⟨rfl, rfl⟩
        refine hK.out _ _ ?_ (fun _ => ?_)
        · exact C0
        clear hK K
        refine take_at 10 (some 50) (tx p5) rfl rfl (by kernel_rfl) (by kernel_rfl) (by kernel_rfl) (fun _ _ _ h => h) (by rfl) (fun W hSw => by exact exec_add rfl p4 qt rfl rfl (by omega) p5 K5.out W) C0 ?_
        simp only [Act.put, List.setIfInBounds_toArray, List.set_cons_zero, List.set_cons_succ]
        refine take_at 11 (some 2) (tx p5) rfl rfl (by kernel_rfl) (by kernel_rfl) (by kernel_rfl) (fun _ _ _ h => h) (by rfl) (fun W hSw => by go_simp) C0 ?_
        simp only [Act.put, List.setIfInBounds_toArray, List.set_cons_zero, List.set_cons_succ]
        refine wpAnyH_done (by kernel_rfl) ?_ _
        refine NoPanic.normal ?_
        go_wp2_with fail
        go_ret
        exact ⟨by rw [HR.out]; rfl, Below.chain B2 C0⟩
end Go.Proofs.YtideieolgjhbiaaGreatDoor
