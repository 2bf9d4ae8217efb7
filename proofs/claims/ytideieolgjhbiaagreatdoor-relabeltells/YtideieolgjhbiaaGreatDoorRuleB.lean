/- A rule's text: quoted, sign, condition, line, Print: each for every rule. -/
import Derived.Test.YtideieolgjhbiaaGreatDoorRuleA
import Derived.Test.YtideieolgjhbiaaGreatDoorHeldA
namespace Go.Proofs.YtideieolgjhbiaaGreatDoor
open Go.RowKit

theorem ba_append (x y : List UInt8) : (⟨x.toArray⟩ : ByteArray) ++ ⟨y.toArray⟩ = ⟨(x ++ y).toArray⟩ := by
  apply ByteArray.ext
  simp
theorem exec_add {P : Program} {a : Act} {o : Oper} {x y : Operand} {t u : TypeId} (ho : o.op = .binOp .add t x y u) (s r : Str) (hx : a.eval x = tx s) (hy : a.eval y = tx r) (hl : s.length + r.length ≤ 8388608) (q : Str) (hq : q = s ++ r) (w : World) : (execOp a.eval o).run P w = .ok (.value (tx q)) w := by
  subst hq
  unfold execOp
  simp only [ho, hx, hy]
  simp only [binOp_string_add, Sem.run_bind, Sem.run_pure]
  go_simp
  rw [if_neg (by omega), ba_append]
theorem count_le (s : Str) (c : UInt8) : Lib.count s [c] ≤ s.length := by
  rw [Lib.count_one]
  exact List.count_le_length
/-- strings.ReplaceAll of one sign. -/
theorem repl_any (s : Str) (c : UInt8) (new : Str) (w : World) (hs : s.length ≤ 1000000) (hn : new.length ≤ 1000) (hm : Mx w) :
    Calls Tryz.prog 59 #[tx s, .string ⟨#[c]⟩, tx new] w fun e w' => e = .returned (tx (Lib.replaceAll s [c] new)) ∧ Below w.heap.size w w' := by
  obtain ⟨m, hm⟩ := hm
  have hb : Lib.countB (⟨s.toArray⟩ : ByteArray) ⟨#[c]⟩ ≤ s.length := count_le s c
  have h3 : Lib.countB (⟨s.toArray⟩ : ByteArray) ⟨#[c]⟩ * new.length ≤ s.length * 1000 := Nat.mul_le_mul hb hn
  refine (Tryz.strings_ReplaceAll ⟨s.toArray⟩ ⟨#[c]⟩ ⟨new.toArray⟩ m w (by rw [ba_size]; omega) hm (Nat.le_refl 1) (by rw [ba_size, ba_size]; omega)).mono ?_
  rintro e w' ⟨rfl, hb⟩
  exact ⟨rfl, hb⟩
theorem esc_one_len (v : Str) : (Lib.replaceAll v [92] [92, 92]).length ≤ 2 * v.length := by
  rw [replaceAll_one _ _ _ (by simp)]
  induction v with
  | nil => simp
  | cons x v ih =>
    rw [List.flatMap_cons, List.length_append, List.length_cons]
    have : (if x = 92 then ([92, 92] : Str) else [x]).length ≤ 2 := by split <;> simp
    omega
set_option maxHeartbeats 1000000 in
theorem quotedR_any (s : Str) (w : World) (hs : s.length ≤ 1000) (hm : Mx w) : Calls Tryz.prog 47 #[tx s] w fun e w' => e = .returned (tx (quo s)) ∧ Below w.heap.size w w' := by
  have h1 := repl_any s 92 [92, 92] w (by omega) (by simp) hm
  have hl := esc_one_len s
  have h2 := fun W (hW : Below w.heap.size w W) => repl_any (Lib.replaceAll s [92] [92, 92]) 34 [92, 34] W (by omega) (by simp) (hm.later hW)
  rw [esc_eq] at h2
  have hel := esc_len s
  unfold quo
  generalize Lib.replaceAll s [92] [92, 92] = u at *
  generalize esc s = v at *
  have a1 : (⟨#[34]⟩ : ByteArray) ++ ⟨v.toArray⟩ = ⟨([34] ++ v).toArray⟩ := ba_append [34] v
  have a2 : (⟨([34] ++ v).toArray⟩ : ByteArray) ++ ⟨#[34]⟩ = ⟨([34] ++ v ++ [34]).toArray⟩ := ba_append ([34] ++ v) [34]
  have l1 : ([34] ++ v).length ≤ 2001 := by simp; omega
  generalize [34] ++ v ++ [34] = q2 at *
  generalize [34] ++ v = q1 at *
  clear hl
  go_enter Tryz.func47, Tryz.ntmps47
  go_wp2_with fail
  refine h1.mono ?_
  rintro e w1 ⟨rfl, hb1⟩
  go_wp2_with fail
  refine (h2 _ hb1).mono ?_
  rintro e w2 ⟨rfl, hb2⟩
  go_wp2
  go_ret
  exact ⟨rfl, Below.chain hb1 hb2⟩
theorem sign_any (k : Int) (w : World) : Calls Tryz.prog 63 #[.int .i64 k] w fun e w' => e = .returned (tx (signT k)) ∧ w = w' := by
  unfold signT
  by_cases h1 : k = 1
  · subst h1
    go_enter Tryz.func63, Tryz.ntmps63
    go_wp2_with fail
    go_ret
    exact ⟨rfl, rfl⟩
  · have t1 : (k == 1) = false := by simpa using h1
    by_cases h2 : k = 2
    · subst h2
      go_enter Tryz.func63, Tryz.ntmps63
      go_wp2_with fail
      go_ret
      exact ⟨rfl, rfl⟩
    · have t2 : (k == 2) = false := by simpa using h2
      by_cases h3 : k = 3
      · subst h3
        go_enter Tryz.func63, Tryz.ntmps63
        go_wp2_with fail
        go_ret
        exact ⟨rfl, rfl⟩
      · have t3 : (k == 3) = false := by simpa using h3
        go_enter Tryz.func63, Tryz.ntmps63
        go_wp2_with fail
        go_ret
        exact ⟨rfl, rfl⟩
theorem sign_len (k : Int) : (signT k).length ≤ 2 := by
  unfold signT
  split
  · simp
  · split
    · simp
    · split <;> simp
/-- Texts that are short. -/
def Short (r : Rl) : Prop := r.frm.name.length ≤ 100 ∧ r.frm.text.length ≤ 100 ∧ r.tgt.length ≤ 100 ∧ r.txt.length ≤ 100
theorem quo_len (s : Str) : (quo s).length ≤ 2 * s.length + 2 := by
  have := esc_len s
  unfold quo
  simp
  omega
set_option maxHeartbeats 2000000 in
theorem condition_any (r : Rl) (w : World) (hf : Short r) (hm : Mx w) : Calls Tryz.prog 46 #[qv r] w fun e w' => e = .returned (tx (condT r.frm)) ∧ Below w.heap.size w w' := by
  have hsg := sign_any r.frm.kind
  have hqu := fun W (h : Mx W) => quotedR_any r.frm.text W (by have := hf.2.1; omega) h
  have hbx := BoxQ.new w r
  have hb0 := bal (Below.refl _ w) (.cells #[tx r.frm.name, .int .i64 r.frm.kind, tx r.frm.text, .int .i64 r.act, tx r.tgt, tx r.txt] 51)
  have hmx := hm.later hb0
  have hl1 := hf.1
  have hl2 := hf.2.1
  have hl3 := sign_len r.frm.kind
  have hl4 := quo_len r.frm.text
  obtain ⟨act, ⟨nn, kk, tt⟩, tgt, txt⟩ := r
  dsimp only at hl1 hl2 hl3 hl4 hsg hqu
  unfold condT
  dsimp only
  generalize signT kk = sg at *
  generalize quo tt = qt at *
  obtain ⟨q1, H1⟩ : ∃ q, Hid (q = nn ++ [32]) := ⟨nn ++ [32], (rfl : nn ++ [32] = nn ++ [32])⟩
  obtain ⟨q2, H2⟩ : ∃ q, Hid (q = q1 ++ sg) := ⟨q1 ++ sg, (rfl : q1 ++ sg = q1 ++ sg)⟩
  obtain ⟨q3, H3⟩ : ∃ q, Hid (q = q2 ++ [32]) := ⟨q2 ++ [32], (rfl : q2 ++ [32] = q2 ++ [32])⟩
  obtain ⟨q4, H4⟩ : ∃ q, Hid (q = q3 ++ qt) := ⟨q3 ++ qt, (rfl : q3 ++ qt = q3 ++ qt)⟩
  have k1 : q1.length ≤ 101 := by rw [H1.out]; simp; omega
  have k2 : q2.length ≤ 103 := by rw [H2.out]; simp; omega
  have k3 : q3.length ≤ 104 := by rw [H3.out]; simp; omega
  have HR : Hid (nn ++ [32] ++ sg ++ [32] ++ qt = q4) := by show _ = _; rw [H4.out, H3.out, H2.out, H1.out]
  clear hm hf
  go_enter Tryz.func46, Tryz.ntmps46
  go_wp2_with fail
  generalize w.alloc (.cells _ 51) = w0 at *
  have C0 : Below w0.heap.size w0 w0.drew := (Below.refl _ _).drew
  refine wp_region_noPanic ?_
  refine wp_region_held_drew (S := fun W => Below w0.heap.size w0 W) (by kernel_rfl) ?_ (fun _ => ?_)
  · exact C0
  generalize w0.drew = wd at *
  refine take_at 0 (some 3) (.pointer (some ⟨w.heap.size, 0, none⟩)) rfl rfl (by kernel_rfl) (by kernel_rfl) (by kernel_rfl) (fun _ _ _ h => h) (by rfl) (fun W hSw => by go_simp) C0 ?_
  simp only [Act.put, List.setIfInBounds_toArray, List.set_cons_zero, List.set_cons_succ]
  refine take_at 1 (some 4) (.pointer (some ⟨w.heap.size, 0, none⟩)) rfl rfl (by kernel_rfl) (by kernel_rfl) (by kernel_rfl) (fun _ _ _ h => h) (by rfl) (fun W hSw => by go_simp) C0 ?_
  simp only [Act.put, List.setIfInBounds_toArray, List.set_cons_zero, List.set_cons_succ]
  refine take_at 2 (some 5) (tx nn) rfl rfl (by kernel_rfl) (by kernel_rfl) (by kernel_rfl) (fun _ _ _ h => h) (by rfl) (fun W hSw => by have c0 := (hbx.later hSw).c0; dsimp only at c0; go_simp) C0 ?_
  simp only [Act.put, List.setIfInBounds_toArray, List.set_cons_zero, List.set_cons_succ]
  refine take_at 3 (some 6) (tx q1) rfl rfl (by kernel_rfl) (by kernel_rfl) (by kernel_rfl) (fun _ _ _ h => h) (by rfl) (fun W hSw => by exact exec_add rfl nn [32] rfl rfl (by simp; omega) q1 H1.out W) C0 ?_
  simp only [Act.put, List.setIfInBounds_toArray, List.set_cons_zero, List.set_cons_succ]
  refine take_at 4 (some 7) (.pointer (some ⟨w.heap.size, 0, none⟩)) rfl rfl (by kernel_rfl) (by kernel_rfl) (by kernel_rfl) (fun _ _ _ h => h) (by rfl) (fun W hSw => by go_simp) C0 ?_
  simp only [Act.put, List.setIfInBounds_toArray, List.set_cons_zero, List.set_cons_succ]
  refine take_at 5 (some 8) (.pointer (some ⟨w.heap.size, 1, none⟩)) rfl rfl (by kernel_rfl) (by kernel_rfl) (by kernel_rfl) (fun _ _ _ h => h) (by rfl) (fun W hSw => by go_simp) C0 ?_
  simp only [Act.put, List.setIfInBounds_toArray, List.set_cons_zero, List.set_cons_succ]
  refine take_at 6 (some 9) (.int .i64 kk) rfl rfl (by kernel_rfl) (by kernel_rfl) (by kernel_rfl) (fun _ _ _ h => h) (by rfl) (fun W hSw => by have c0 := (hbx.later hSw).c1; dsimp only at c0; go_simp) C0 ?_
  simp only [Act.put, List.setIfInBounds_toArray, List.set_cons_zero, List.set_cons_succ]
  refine take_at 10 (some 13) (.pointer (some ⟨w.heap.size, 0, none⟩)) rfl rfl (by kernel_rfl) (by kernel_rfl) (by kernel_rfl) (fun _ _ _ h => h) (by rfl) (fun W hSw => by go_simp) C0 ?_
  simp only [Act.put, List.setIfInBounds_toArray, List.set_cons_zero, List.set_cons_succ]
  refine take_at 11 (some 14) (.pointer (some ⟨w.heap.size, 2, none⟩)) rfl rfl (by kernel_rfl) (by kernel_rfl) (by kernel_rfl) (fun _ _ _ h => h) (by rfl) (fun W hSw => by go_simp) C0 ?_
  simp only [Act.put, List.setIfInBounds_toArray, List.set_cons_zero, List.set_cons_succ]
  refine take_at 12 (some 15) (tx tt) rfl rfl (by kernel_rfl) (by kernel_rfl) (by kernel_rfl) (fun _ _ _ h => h) (by rfl) (fun W hSw => by have c0 := (hbx.later hSw).c2; dsimp only at c0; go_simp) C0 ?_
  simp only [Act.put, List.setIfInBounds_toArray, List.set_cons_zero, List.set_cons_succ]
  refine wpAnyH_ready (rs := [7]) (by kernel_rfl) (by simp) ?_
  refine AllReadyH.cons rfl (fun K hK => ?_) AllReadyH.nil
  go_simp
  refine (hsg _).mono ?_
  rintro e wc1 ⟨rfl, rfl⟩
  refine hK.out _ _ ?_ (fun _ => ?_)
  · exact C0
  clear hK K
  refine take_at 8 (some 11) (tx q2) rfl rfl (by kernel_rfl) (by kernel_rfl) (by kernel_rfl) (fun _ _ _ h => h) (by rfl) (fun W hSw => by exact exec_add rfl q1 sg rfl rfl (by omega) q2 H2.out W) C0 ?_
  simp only [Act.put, List.setIfInBounds_toArray, List.set_cons_zero, List.set_cons_succ]
  refine take_at 9 (some 12) (tx q3) rfl rfl (by kernel_rfl) (by kernel_rfl) (by kernel_rfl) (fun _ _ _ h => h) (by rfl) (fun W hSw => by exact exec_add rfl q2 [32] rfl rfl (by simp; omega) q3 H3.out W) C0 ?_
  simp only [Act.put, List.setIfInBounds_toArray, List.set_cons_zero, List.set_cons_succ]
  refine wpAnyH_ready (rs := [13]) (by kernel_rfl) (by simp) ?_
  refine AllReadyH.cons rfl (fun K hK => ?_) AllReadyH.nil
  go_simp
  refine (hqu _ (hmx.later C0)).mono ?_
  rintro e wc2 ⟨rfl, hc2⟩
  have C2 := Below.chain C0 hc2
  refine hK.out _ _ ?_ (fun _ => ?_)
  · exact C2
  clear hK K
  refine take_at 14 (some 17) (tx q4) rfl rfl (by kernel_rfl) (by kernel_rfl) (by kernel_rfl) (fun _ _ _ h => h) (by rfl) (fun W hSw => by exact exec_add rfl q3 qt rfl rfl (by omega) q4 H4.out W) C2 ?_
  simp only [Act.put, List.setIfInBounds_toArray, List.set_cons_zero, List.set_cons_succ]
  refine take_at 15 (some 2) (tx q4) rfl rfl (by kernel_rfl) (by kernel_rfl) (by kernel_rfl) (fun _ _ _ h => h) (by rfl) (fun W hSw => by go_simp) C2 ?_
  simp only [Act.put, List.setIfInBounds_toArray, List.set_cons_zero, List.set_cons_succ]
  refine wpAnyH_done (by kernel_rfl) ?_ _
  refine NoPanic.normal ?_
  go_wp2_with fail
  go_ret
  exact ⟨by rw [HR.out]; rfl, Below.chain hb0 C2⟩
theorem cond_len (m : Mat) (h1 : m.name.length ≤ 100) (h2 : m.text.length ≤ 100) : (condT m).length ≤ 1000 := by
  have := sign_len m.kind
  have := quo_len m.text
  unfold condT
  simp
  omega
set_option maxHeartbeats 4000000 in
theorem line_any (r : Rl) (w : World) (hf : Short r) (hm : Mx w) : Calls Tryz.prog 32 #[qv r] w fun e w' => e = .returned (tx (lineT r)) ∧ Below w.heap.size w w' := by
  have hcd := fun W (h : Mx W) => condition_any r W hf h
  have hqt := fun W (h : Mx W) => quotedR_any r.txt W (by have := hf.2.2.2; omega) h
  have hqf := fun W (h : Mx W) => quotedR_any r.frm.text W (by have := hf.2.1; omega) h
  have hbx := BoxQ.new w r
  have hb0 := bal (Below.refl _ w) (.cells #[tx r.frm.name, .int .i64 r.frm.kind, tx r.frm.text, .int .i64 r.act, tx r.tgt, tx r.txt] 51)
  have hmx := hm.later hb0
  have hl1 := cond_len r.frm hf.1 hf.2.1
  have hl2 := quo_len r.txt
  have hl3 := hf.2.2.1
  have hl4 := hf.2.2.2
  have hl5 := quo_len r.frm.text
  have hl6 := hf.2.1
  unfold lineT
  obtain ⟨act, ⟨nn, kk, tt⟩, tgt, txt⟩ := r
  dsimp only at *
  generalize condT ⟨nn, kk, tt⟩ = cd at *
  generalize quo txt = qt at *
  generalize quo tt = qf at *
  clear hm hf
  by_cases h1 : act = 1
  · subst h1
    have a1 : (⟨#[107, 101, 101, 112, 32]⟩ : ByteArray) ++ ⟨cd.toArray⟩ = ⟨(keepT ++ cd).toArray⟩ := ba_append keepT cd
    generalize keepT ++ cd = q1 at *
    go_enter Tryz.func32, Tryz.ntmps32
    go_wp2_with fail
    generalize w.alloc (.cells _ 51) = w0 at *
    refine (hcd _ hmx).mono ?_
    rintro e w1 ⟨rfl, hb1⟩
    go_wp2_with fail
    go_ret
    exact ⟨rfl, Below.chain hb0 hb1⟩
  · have t1 : (act == 1) = false := by simpa using h1
    rw [if_neg h1]
    by_cases h2 : act = 2
    · subst h2
      have a1 : (⟨#[100, 114, 111, 112, 32]⟩ : ByteArray) ++ ⟨cd.toArray⟩ = ⟨(dropT ++ cd).toArray⟩ := ba_append dropT cd
      generalize dropT ++ cd = q1 at *
      go_enter Tryz.func32, Tryz.ntmps32
      go_wp2_with fail
      generalize w.alloc (.cells _ 51) = w0 at *
      refine (hcd _ hmx).mono ?_
      rintro e w1 ⟨rfl, hb1⟩
      go_wp2_with fail
      go_ret
      exact ⟨rfl, Below.chain hb0 hb1⟩
    · have t2 : (act == 2) = false := by simpa using h2
      rw [if_neg h2]
      by_cases h3 : act = 3
      · subst h3
        rw [if_pos rfl]
        obtain ⟨q1, H1⟩ : ∃ q, Hid (q = replT ++ cd) := ⟨replT ++ cd, (rfl : replT ++ cd = replT ++ cd)⟩
        obtain ⟨q2, H2⟩ : ∃ q, Hid (q = q1 ++ [32]) := ⟨q1 ++ [32], (rfl : q1 ++ [32] = q1 ++ [32])⟩
        obtain ⟨q3, H3⟩ : ∃ q, Hid (q = q2 ++ tgt) := ⟨q2 ++ tgt, (rfl : q2 ++ tgt = q2 ++ tgt)⟩
        obtain ⟨q4, H4⟩ : ∃ q, Hid (q = q3 ++ [32]) := ⟨q3 ++ [32], (rfl : q3 ++ [32] = q3 ++ [32])⟩
        obtain ⟨q5, H5⟩ : ∃ q, Hid (q = q4 ++ qt) := ⟨q4 ++ qt, (rfl : q4 ++ qt = q4 ++ qt)⟩
        have k1 : q1.length ≤ 1008 := by rw [H1.out]; simp [replT]; omega
        have k2 : q2.length ≤ 1009 := by rw [H2.out]; simp; omega
        have k3 : q3.length ≤ 1109 := by rw [H3.out]; simp; omega
        have k4 : q4.length ≤ 1110 := by rw [H4.out]; simp; omega
        have HR : Hid (replT ++ cd ++ [32] ++ tgt ++ [32] ++ qt = q5) := by show _ = _; rw [H5.out, H4.out, H3.out, H2.out, H1.out]
        go_enter Tryz.func32, Tryz.ntmps32
        go_wp2_with fail
        generalize w.alloc (.cells _ 51) = w0 at *
        have C0 : Below w0.heap.size w0 w0.drew := (Below.refl _ _).drew
        refine wp_region_noPanic ?_
        refine wp_region_held_drew (S := fun W => Below w0.heap.size w0 W) (by kernel_rfl) ?_ (fun _ => ?_)
        · exact C0
        generalize w0.drew = wd at *
        refine take_at 0 (some 17) (qv ⟨3, ⟨nn, kk, tt⟩, tgt, txt⟩) rfl rfl (by kernel_rfl) (by kernel_rfl) (by kernel_rfl) (fun _ _ _ h => h) (by rfl) (fun W hSw => by obtain ⟨c0, c1, c2, c3, c4, c5⟩ := hbx.later hSw; dsimp only at c0 c1 c2 c3 c4 c5; go_simp) C0 ?_
        simp only [Act.put, List.setIfInBounds_toArray, List.set_cons_zero, List.set_cons_succ]
        refine take_at 4 (some 21) (.pointer (some ⟨w.heap.size, 4, none⟩)) rfl rfl (by kernel_rfl) (by kernel_rfl) (by kernel_rfl) (fun _ _ _ h => h) (by rfl) (fun W hSw => by go_simp) C0 ?_
        simp only [Act.put, List.setIfInBounds_toArray, List.set_cons_zero, List.set_cons_succ]
        refine take_at 5 (some 22) (tx tgt) rfl rfl (by kernel_rfl) (by kernel_rfl) (by kernel_rfl) (fun _ _ _ h => h) (by rfl) (fun W hSw => by have c0 := (hbx.later hSw).c4; dsimp only at c0; go_simp) C0 ?_
        simp only [Act.put, List.setIfInBounds_toArray, List.set_cons_zero, List.set_cons_succ]
        refine take_at 8 (some 25) (.pointer (some ⟨w.heap.size, 5, none⟩)) rfl rfl (by kernel_rfl) (by kernel_rfl) (by kernel_rfl) (fun _ _ _ h => h) (by rfl) (fun W hSw => by go_simp) C0 ?_
        simp only [Act.put, List.setIfInBounds_toArray, List.set_cons_zero, List.set_cons_succ]
        refine take_at 9 (some 26) (tx txt) rfl rfl (by kernel_rfl) (by kernel_rfl) (by kernel_rfl) (fun _ _ _ h => h) (by rfl) (fun W hSw => by have c0 := (hbx.later hSw).c5; dsimp only at c0; go_simp) C0 ?_
        simp only [Act.put, List.setIfInBounds_toArray, List.set_cons_zero, List.set_cons_succ]
        refine wpAnyH_ready (rs := [1]) (by kernel_rfl) (by simp) ?_
        refine AllReadyH.cons rfl (fun K hK => ?_) AllReadyH.nil
        go_simp
        refine (hcd _ (hmx.later C0)).mono ?_
        rintro e wc1 ⟨rfl, hc1⟩
        have C1 := Below.chain C0 hc1
        refine hK.out _ _ ?_ (fun _ => ?_)
        · exact C1
        clear hK K
        refine take_at 2 (some 19) (tx q1) rfl rfl (by kernel_rfl) (by kernel_rfl) (by kernel_rfl) (fun _ _ _ h => h) (by rfl) (fun W hSw => by exact exec_add rfl replT cd rfl rfl (by simp [replT]; omega) q1 H1.out W) C1 ?_
        simp only [Act.put, List.setIfInBounds_toArray, List.set_cons_zero, List.set_cons_succ]
        refine take_at 3 (some 20) (tx q2) rfl rfl (by kernel_rfl) (by kernel_rfl) (by kernel_rfl) (fun _ _ _ h => h) (by rfl) (fun W hSw => by exact exec_add rfl q1 [32] rfl rfl (by simp; omega) q2 H2.out W) C1 ?_
        simp only [Act.put, List.setIfInBounds_toArray, List.set_cons_zero, List.set_cons_succ]
        refine take_at 6 (some 23) (tx q3) rfl rfl (by kernel_rfl) (by kernel_rfl) (by kernel_rfl) (fun _ _ _ h => h) (by rfl) (fun W hSw => by exact exec_add rfl q2 tgt rfl rfl (by omega) q3 H3.out W) C1 ?_
        simp only [Act.put, List.setIfInBounds_toArray, List.set_cons_zero, List.set_cons_succ]
        refine take_at 7 (some 24) (tx q4) rfl rfl (by kernel_rfl) (by kernel_rfl) (by kernel_rfl) (fun _ _ _ h => h) (by rfl) (fun W hSw => by exact exec_add rfl q3 [32] rfl rfl (by simp; omega) q4 H4.out W) C1 ?_
        simp only [Act.put, List.setIfInBounds_toArray, List.set_cons_zero, List.set_cons_succ]
        refine wpAnyH_ready (rs := [10]) (by kernel_rfl) (by simp) ?_
        refine AllReadyH.cons rfl (fun K hK => ?_) AllReadyH.nil
        go_simp
        refine (hqt _ (hmx.later C1)).mono ?_
        rintro e wc2 ⟨rfl, hc2⟩
        have C2 := Below.chain C1 hc2
        refine hK.out _ _ ?_ (fun _ => ?_)
        · exact C2
        clear hK K
        refine take_at 11 (some 28) (tx q5) rfl rfl (by kernel_rfl) (by kernel_rfl) (by kernel_rfl) (fun _ _ _ h => h) (by rfl) (fun W hSw => by exact exec_add rfl q4 qt rfl rfl (by omega) q5 H5.out W) C2 ?_
        simp only [Act.put, List.setIfInBounds_toArray, List.set_cons_zero, List.set_cons_succ]
        refine take_at 12 (some 2) (tx q5) rfl rfl (by kernel_rfl) (by kernel_rfl) (by kernel_rfl) (fun _ _ _ h => h) (by rfl) (fun W hSw => by go_simp) C2 ?_
        simp only [Act.put, List.setIfInBounds_toArray, List.set_cons_zero, List.set_cons_succ]
        refine wpAnyH_done (by kernel_rfl) ?_ _
        refine NoPanic.normal ?_
        go_wp2_with fail
        go_ret
        exact ⟨by rw [HR.out]; rfl, Below.chain hb0 C2⟩
      · have t3 : (act == 3) = false := by simpa using h3
        rw [if_neg h3]
        have a1 : (⟨#[108, 97, 98, 101, 108, 100, 114, 111, 112, 32]⟩ : ByteArray) ++ ⟨qf.toArray⟩ = ⟨(ldropT ++ qf).toArray⟩ := ba_append ldropT qf
        generalize ldropT ++ qf = q1 at *
        go_enter Tryz.func32, Tryz.ntmps32
        go_wp2_with fail
        generalize w.alloc (.cells _ 51) = w0 at *
        refine (hqf _ hmx).mono ?_
        rintro e w1 ⟨rfl, hb1⟩
        go_wp2_with fail
        go_ret
        exact ⟨rfl, Below.chain hb0 hb1⟩
end Go.Proofs.YtideieolgjhbiaaGreatDoor
