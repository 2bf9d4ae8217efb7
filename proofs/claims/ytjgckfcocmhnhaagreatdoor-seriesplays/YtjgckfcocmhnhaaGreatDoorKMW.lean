/- Texts that the others lean on. -/
import Derived.Test.YtjgckfcocmhnhaaGreatDoorKMS
import Derived.BigRegion
import Derived.BigQuiet
import Derived.Test.YtjgckfcocmhnhaaGreatDoorKMR
namespace Go.Proofs.YtjgckfcocmhnhaaGreatDoor.Sr
open Go.RowKit Rn
theorem getD_memR {rs : List SRec} {j : Nat} (h : j < rs.length) : rs.getD j r0 ∈ rs := by
 rw [List.getD_eq_getElem?_getD, List.getElem?_eq_getElem h]
 exact List.getElem_mem h
/-- The samples of the series of these labels. -/
def smpR (q : List Lb.Pr) (rs : List SRec) : List Smp := if fndR q rs = true then (rs.getD (posR q rs) r0).l else []
set_option maxHeartbeats 4000000 in
set_option maxRecDepth 100000 in
theorem past_none (sb : Nat) (now : Int) (base : Nat) (ao : Option Addr) (n cap : Nat) (rs : List SRec) (qa : Option Addr) (qn qc : Nat) (q : List Lb.Pr) (d : Int) (w : World) (h : Sx w sb now base ao n cap rs) (hn : n ≤ 100) (hnow : 0 ≤ now ∧ now ≤ 1000000) (hs : Srt rs) (hqn : qn ≤ 1000000) (hq : Lb.Ps w qa qn q) (hf : fndR q rs = false) :
  Calls Tryz.prog 54 #[.pointer (some ⟨sb, 0, none⟩), .slice qa qn qc, .int .i64 d] w fun e w' => ∃ rb, e = .returned (pv rb (wd d) now) ∧ St w' rb (addAll (wd d) now [] []) (wd d) now ∧ w.heap.size ≤ rb ∧ Below w.heap.size w w' := by
 have hfind := fun W h1 h2 => find_any sb now base ao n cap rs qa qn qc q W (by omega) h1 hs hqn h2
 rw [hf] at hfind
 have hpo := fun W => past_of d now none 0 0 [] W hnow (by omega) (Ms.nil _ _) (by simp)
 have hb0 := bal (Below.refl _ w) (.cells #[.pointer none, .int .i64 0, .int .i64 0] 109)
 have hx := BoxV.new w (.pointer none) (.int .i64 0) (.int .i64 0) 109
 have hm0 := h.later hb0
 have hq0 := hq.later hb0
 have c1 := h.c1
 clear h hq hs hf
 generalize posR q rs = p at *
 generalize wd d = k at *
 have hz : (w.alloc (.cells #[.pointer none, .int .i64 0, .int .i64 0] 109)).heap.size = w.heap.size + 1 := by simp
 have HZ : Hid _ := hz
 clear hz
 go_enter Tryz.func54, Tryz.ntmps54
 go_wp2_with fail
 refine (hfind _ hm0 hq0).mono ?_
 rintro e w1 ⟨rfl, hb1⟩
 have hB1 := Below.chain hb0 hb1
 have hx1 := hx.later hb1
 have d1 := (hB1.cell (p := ⟨sb, 1, none⟩) (World.block_lt_of_cell? _ _ c1)).trans c1
 go_wp2_with fail
 refine (hpo _).mono ?_
 rintro e w2 ⟨rfl, hs2, hb2⟩
 have hx2 := hx1.later hb2
 have hB2 := Below.chain hB1 hb2
 obtain ⟨c0, c1, c2, f0, f1, f2⟩ := id hx2
 obtain ⟨p0, p1, p2, _, _, _⟩ := hx2.put (.pointer (some ⟨w1.heap.size + 1, 0, none⟩)) (.int .i64 k) (.int .i64 now)
 have hsz : w.heap.size < w1.heap.size := by have := hb1.size; rw [HZ.out] at this; omega
 clear hfind hpo hm0 hq0
 go_wp2
 exact bodyPost_ret (v := pv (w1.heap.size + 1) k now) (by simp [results, Tryz.results54, go_sem, p0, p1, p2]) rfl ⟨_, rfl, hs2.kept (((grown_set _ _ _ _).trans (grown_set _ _ _ _)).trans (grown_set _ _ _ _) : w2.grownBy _ (some w.heap.size)) (fun e => by injection e with e; omega), by omega, below3V hB2 (Nat.le_refl _) _ _ _⟩
set_option maxHeartbeats 4000000 in
set_option maxRecDepth 100000 in
theorem past_some (sb : Nat) (now : Int) (base : Nat) (ao : Option Addr) (n cap : Nat) (rs : List SRec) (qa : Option Addr) (qn qc : Nat) (q : List Lb.Pr) (d : Int) (w : World) (h : Sx w sb now base ao n cap rs) (hn : n ≤ 100) (hnow : 0 ≤ now ∧ now ≤ 1000000) (hs : Srt rs) (hqn : qn ≤ 1000000) (hq : Lb.Ps w qa qn q) (hf : fndR q rs = true) :
  Calls Tryz.prog 54 #[.pointer (some ⟨sb, 0, none⟩), .slice qa qn qc, .int .i64 d] w fun e w' => ∃ rb, e = .returned (pv rb (wd d) now) ∧ St w' rb (addAll (wd d) now [] (rs.getD (posR q rs) r0).l) (wd d) now ∧ w.heap.size ≤ rb ∧ Below w.heap.size w w' := by
 have hfind := fun W h1 h2 => find_any sb now base ao n cap rs qa qn qc q W (by omega) h1 hs hqn h2
 have hp : posR q rs < rs.length := by
  have hf' := hf
  unfold fndR at hf'
  rw [Bool.and_eq_true, decide_eq_true_eq] at hf'
  exact hf'.1
 rw [hf] at hfind
 have hln := h.len
 have hst := h.s _ (getD_memR hp)
 obtain ⟨g, e, -, hc⟩ := h.os.2 (by omega)
 subst e
 have hp1 := (hc (posR q rs) (by omega)).2
 have hrg : ∀ s ∈ (rs.getD (posR q rs) r0).l, R64 s.2.2 := hst.f.rg
 have hle : (rs.getD (posR q rs) r0).l.length ≤ 100 := hst.f.le
 have hall := fun W hW => Rn.all_any (rs.getD (posR q rs) r0).ring (rs.getD (posR q rs) r0).l 100 (rs.getD (posR q rs) r0).t W hW
 have hpo := fun ao m cap l W hm hl hr => past_of d now ao m cap l W hnow hm hl hr
 have hb0 := bal (Below.refl _ w) (.cells #[.pointer none, .int .i64 0, .int .i64 0] 109)
 have hx := BoxV.new w (.pointer none) (.int .i64 0) (.int .i64 0) 109
 have hm0 := h.later hb0
 have hq0 := hq.later hb0
 have c1 := h.c1
 have c0 := h.c0
 have hrm := hst.m
 clear h hq hs hf hc hst
 generalize posR q rs = p at *
 generalize rs.getD p r0 = y at *
 obtain ⟨lab, rb, sy, ly, ty⟩ := y
 dsimp only at *
 generalize wd d = k at *
 have hz : (w.alloc (.cells #[.pointer none, .int .i64 0, .int .i64 0] 109)).heap.size = w.heap.size + 1 := by simp
 have HZ : Hid _ := hz
 have hpn : p < n := by omega
 clear hz hp hln
 go_enter Tryz.func54, Tryz.ntmps54
 go_wp2_with fail
 refine (hfind _ hm0 hq0).mono ?_
 rintro e w1 ⟨rfl, hb1⟩
 have hB1 := Below.chain hb0 hb1
 have hx1 := hx.later hb1
 have HSS : Hid (∀ W, Below w.heap.size w W → (fun W : World => W.cell? ⟨sb, 1, none⟩ = some (.int .i64 now) ∧ W.cell? ⟨sb, 0, none⟩ = some (.slice (some ⟨g, 0, none⟩) n cap) ∧ W.cell? ⟨g, p * 2 + 1, none⟩ = some (.pointer (some ⟨rb, 0, none⟩))) W) := fun W hW =>
  ⟨(hW.cell (p := ⟨sb, 1, none⟩) (World.block_lt_of_cell? _ _ c1)).trans c1, (hW.cell (p := ⟨sb, 0, none⟩) (World.block_lt_of_cell? _ _ c0)).trans c0, (hW.cell (p := ⟨g, p * 2 + 1, none⟩) (World.block_lt_of_cell? _ _ hp1)).trans hp1⟩
 have HRM : Hid (∀ W, Below w.heap.size w W → Rl W rb ly 100 ty) := fun W hW => hrm.later hW
 have hsz : w.heap.size < w1.heap.size := by have := hb1.size; rw [HZ.out] at this; omega
 clear hfind hm0 hq0 hrm c0 c1 hp1
 go_wp2_with fail
 have hBd := hB1.drew
 have hS0 := HSS.out _ hBd
 refine wp_region_noPanic ?_
 refine wp_region_held_drew (S := (fun W : World => W.cell? ⟨sb, 1, none⟩ = some (.int .i64 now) ∧ W.cell? ⟨sb, 0, none⟩ = some (.slice (some ⟨g, 0, none⟩) n cap) ∧ W.cell? ⟨g, p * 2 + 1, none⟩ = some (.pointer (some ⟨rb, 0, none⟩)))) (by kernel_rfl) hS0 (fun _ => ?_)
 refine take_at 0 (some 23) (.int .i64 d) rfl rfl (by kernel_rfl) (by kernel_rfl) (by kernel_rfl) (fun _ _ _ h => h) (by rfl) (fun W hSw => by obtain ⟨q0, q1, q2⟩ := hSw; go_simp) hS0 ?_
 simp only [Act.put, List.setIfInBounds_toArray, List.set_cons_zero, List.set_cons_succ]
 refine take_at 1 (some 24) (.pointer (some ⟨sb, 0, none⟩)) rfl rfl (by kernel_rfl) (by kernel_rfl) (by kernel_rfl) (fun _ _ _ h => h) (by rfl) (fun W hSw => by obtain ⟨q0, q1, q2⟩ := hSw; go_simp) hS0 ?_
 simp only [Act.put, List.setIfInBounds_toArray, List.set_cons_zero, List.set_cons_succ]
 refine take_at 2 (some 25) (.pointer (some ⟨sb, 0, none⟩)) rfl rfl (by kernel_rfl) (by kernel_rfl) (by kernel_rfl) (fun _ _ _ h => h) (by rfl) (fun W hSw => by obtain ⟨q0, q1, q2⟩ := hSw; go_simp) hS0 ?_
 simp only [Act.put, List.setIfInBounds_toArray, List.set_cons_zero, List.set_cons_succ]
 refine take_at 3 (some 26) (.pointer (some ⟨sb, 1, none⟩)) rfl rfl (by kernel_rfl) (by kernel_rfl) (by kernel_rfl) (fun _ _ _ h => h) (by rfl) (fun W hSw => by obtain ⟨q0, q1, q2⟩ := hSw; go_simp) hS0 ?_
 simp only [Act.put, List.setIfInBounds_toArray, List.set_cons_zero, List.set_cons_succ]
 refine take_at 4 (some 27) (.int .i64 now) rfl rfl (by kernel_rfl) (by kernel_rfl) (by kernel_rfl) (fun _ _ _ h => h) (by rfl) (fun W hSw => by obtain ⟨q0, q1, q2⟩ := hSw; go_simp) hS0 ?_
 simp only [Act.put, List.setIfInBounds_toArray, List.set_cons_zero, List.set_cons_succ]
 refine take_at 5 (some 28) (.pointer (some ⟨sb, 0, none⟩)) rfl rfl (by kernel_rfl) (by kernel_rfl) (by kernel_rfl) (fun _ _ _ h => h) (by rfl) (fun W hSw => by obtain ⟨q0, q1, q2⟩ := hSw; go_simp) hS0 ?_
 simp only [Act.put, List.setIfInBounds_toArray, List.set_cons_zero, List.set_cons_succ]
 refine take_at 6 (some 29) (.pointer (some ⟨sb, 0, none⟩)) rfl rfl (by kernel_rfl) (by kernel_rfl) (by kernel_rfl) (fun _ _ _ h => h) (by rfl) (fun W hSw => by obtain ⟨q0, q1, q2⟩ := hSw; go_simp) hS0 ?_
 simp only [Act.put, List.setIfInBounds_toArray, List.set_cons_zero, List.set_cons_succ]
 refine take_at 7 (some 30) (.pointer (some ⟨sb, 0, none⟩)) rfl rfl (by kernel_rfl) (by kernel_rfl) (by kernel_rfl) (fun _ _ _ h => h) (by rfl) (fun W hSw => by obtain ⟨q0, q1, q2⟩ := hSw; go_simp) hS0 ?_
 simp only [Act.put, List.setIfInBounds_toArray, List.set_cons_zero, List.set_cons_succ]
 refine take_at 8 (some 31) (.slice (some ⟨g, 0, none⟩) n cap) rfl rfl (by kernel_rfl) (by kernel_rfl) (by kernel_rfl) (fun _ _ _ h => h) (by rfl) (fun W hSw => by obtain ⟨q0, q1, q2⟩ := hSw; go_simp) hS0 ?_
 simp only [Act.put, List.setIfInBounds_toArray, List.set_cons_zero, List.set_cons_succ]
 refine take_at 9 (some 32) (.int .i64 p) rfl rfl (by kernel_rfl) (by kernel_rfl) (by kernel_rfl) (fun _ _ _ h => h) (by rfl) (fun W hSw => by obtain ⟨q0, q1, q2⟩ := hSw; go_simp) hS0 ?_
 simp only [Act.put, List.setIfInBounds_toArray, List.set_cons_zero, List.set_cons_succ]
 refine take_at 10 (some 33) (.pointer (some ⟨g, p * 2, none⟩)) rfl rfl (by kernel_rfl) (by kernel_rfl) (by kernel_rfl) (fun _ _ _ h => h) (by rfl) (fun W hSw => by obtain ⟨q0, q1, q2⟩ := hSw; go_simp) hS0 ?_
 simp only [Act.put, List.setIfInBounds_toArray, List.set_cons_zero, List.set_cons_succ]
 refine take_at 11 (some 34) (.pointer (some ⟨g, p * 2 + 1, none⟩)) rfl rfl (by kernel_rfl) (by kernel_rfl) (by kernel_rfl) (fun _ _ _ h => h) (by rfl) (fun W hSw => by obtain ⟨q0, q1, q2⟩ := hSw; go_simp) hS0 ?_
 simp only [Act.put, List.setIfInBounds_toArray, List.set_cons_zero, List.set_cons_succ]
 refine take_at 12 (some 35) (.pointer (some ⟨rb, 0, none⟩)) rfl rfl (by kernel_rfl) (by kernel_rfl) (by kernel_rfl) (fun _ _ _ h => h) (by rfl) (fun W hSw => by obtain ⟨q0, q1, q2⟩ := hSw; go_simp) hS0 ?_
 simp only [Act.put, List.setIfInBounds_toArray, List.set_cons_zero, List.set_cons_succ]
 refine take_at 13 (some 36) (.pointer (some ⟨rb, 0, none⟩)) rfl rfl (by kernel_rfl) (by kernel_rfl) (by kernel_rfl) (fun _ _ _ h => h) (by rfl) (fun W hSw => by obtain ⟨q0, q1, q2⟩ := hSw; go_simp) hS0 ?_
 simp only [Act.put, List.setIfInBounds_toArray, List.set_cons_zero, List.set_cons_succ]
 refine take_at 14 (some 37) (.pointer (some ⟨rb, 0, none⟩)) rfl rfl (by kernel_rfl) (by kernel_rfl) (by kernel_rfl) (fun _ _ _ h => h) (by rfl) (fun W hSw => by obtain ⟨q0, q1, q2⟩ := hSw; go_simp) hS0 ?_
 simp only [Act.put, List.setIfInBounds_toArray, List.set_cons_zero, List.set_cons_succ]
 refine wpAnyH_ready (rs := [15]) (by kernel_rfl) (by simp) ?_
 refine AllReadyH.cons rfl (fun K hK => ?_) AllReadyH.nil
 go_simp
 refine (hall _ (HRM.out _ hBd)).mono ?_
 rintro e w2 ⟨v, rfl, hov, hb2⟩
 have hB2 := Below.chain hBd hb2
 obtain ⟨va, vc, rfl, hms⟩ := hov.slice
 have hx2 := (hx1.later (Below.refl _ w1).drew).later hb2
 refine hK.out _ _ (HSS.out _ hB2) (fun _ => ?_)
 clear hK K
 refine wpAnyH_ready (rs := [16]) (by kernel_rfl) (by simp) ?_
 refine AllReadyH.cons rfl (fun K hK => ?_) AllReadyH.nil
 go_simp
 refine (hpo _ _ _ _ _ (by omega) hms hrg).mono ?_
 rintro e w3 ⟨rfl, hs3, hb3⟩
 have hB3 := Below.chain hB2 hb3
 have hx3 := hx2.later hb3
 have hsz3 : w.heap.size < w2.heap.size := Nat.lt_of_lt_of_le hsz hb2.size
 refine hK.out _ _ (HSS.out _ hB3) (fun _ => ?_)
 clear hK K
 obtain ⟨c0, c1, c2, f0, f1, f2⟩ := id hx3
 have hx4 := hx3.put (.pointer (some ⟨w2.heap.size + 1, 0, none⟩)) (.int .i64 k) (.int .i64 now)
 have hB4 := below3V hB3 (Nat.le_refl w.heap.size) (.pointer (some ⟨w2.heap.size + 1, 0, none⟩)) (.int .i64 k) (.int .i64 now)
 have hs4 := hs3.kept (((grown_set w3 w.heap.size 0 (.pointer (some ⟨w2.heap.size + 1, 0, none⟩))).trans (grown_set _ w.heap.size 1 (.int .i64 k))).trans (grown_set _ w.heap.size 2 (.int .i64 now))) (fun e => by injection e with e; omega)
 refine wpAnyH_ready (rs := [17]) (by kernel_rfl) (by simp) ?_
 refine AllReadyH.cons rfl (fun K hK => ?_) AllReadyH.nil
 go_simp
 refine hK.out _ _ (HSS.out _ hB4) (fun _ => ?_)
 clear hK K
 obtain ⟨p0, p1, p2, _, _, _⟩ := id hx4
 refine wpAnyH_done (by kernel_rfl) ?_ _
 refine NoPanic.normal ?_
 go_wp2
 exact bodyPost_ret (v := pv (w2.heap.size + 1) k now) (by simp [results, Tryz.results54, go_sem, p0, p1, p2]) rfl ⟨_, rfl, hs4, by omega, hB4⟩
 /-- past: whichever. -/
 theorem past_sx (sb : Nat) (now : Int) (base : Nat) (ao : Option Addr) (n cap : Nat) (rs : List SRec) (qa : Option Addr) (qn qc : Nat) (q : List Lb.Pr) (d : Int) (w : World) (h : Sx w sb now base ao n cap rs) (hn : n ≤ 100) (hnow : 0 ≤ now ∧ now ≤ 1000000) (hs : Srt rs) (hqn : qn ≤ 1000000) (hq : Lb.Ps w qa qn q) :
   Calls Tryz.prog 54 #[.pointer (some ⟨sb, 0, none⟩), .slice qa qn qc, .int .i64 d] w fun e w' => ∃ rb, e = .returned (pv rb (wd d) now) ∧ St w' rb (addAll (wd d) now [] (smpR q rs)) (wd d) now ∧ w.heap.size ≤ rb ∧ Below w.heap.size w w' := by
  unfold smpR
  cases hf : fndR q rs with
  | true => rw [if_pos rfl]; exact past_some sb now base ao n cap rs qa qn qc q d w h hn hnow hs hqn hq hf
  | false => rw [if_neg (by decide)]; exact past_none sb now base ao n cap rs qa qn qc q d w h hn hnow hs hqn hq hf
 end Go.Proofs.YtjgckfcocmhnhaaGreatDoor.Sr
namespace Go.Proofs.YtjgckfcocmhnhaaGreatDoor.Sr
open Go.RowKit Rn
theorem field_past (b : Nat) (k t : Int) (w : World) : (Instr.field 109 (pv b k t) 0).run Tryz.prog w = .ok (.pointer (some ⟨b, 0, none⟩)) w := by kernel_rfl
theorem own_base {w : World} {b b' : Nat} {v : Value} {l : List Smp} (h : Own w b v l) (hb : b' ≤ b) : Own w b' v l := by
 refine ⟨h.1, h.2.imp id ?_⟩
 rintro ⟨g, cap, cur, hv, hg, hr⟩
 exact ⟨g, cap, cur, hv, Nat.le_trans hb hg, hr⟩
set_option maxRecDepth 100000 in
theorem last_sx (sb : Nat) (now : Int) (base : Nat) (ao : Option Addr) (n cap : Nat) (rs : List SRec) (qa : Option Addr) (qn qc : Nat) (q : List Lb.Pr) (w : World) (h : Sx w sb now base ao n cap rs) (hn : n ≤ 100) (hnow : 0 ≤ now ∧ now ≤ 1000000) (hs : Srt rs) (hqn : qn ≤ 1000000) (hq : Lb.Ps w qa qn q) :
  Calls Tryz.prog 25 #[.pointer (some ⟨sb, 0, none⟩), .slice qa qn qc] w fun e w' => e = .returned (.tuple #[sv (lst (addAll 10 now [] (smpR q rs))), .bool (!(addAll 10 now [] (smpR q rs)).isEmpty)]) ∧ Below w.heap.size w w' := by
 have hb0 := bal (Below.refl _ w) (.cells #[.int .i64 0, .bool false, .int .i64 0] 35)
 have hx := BoxS.new w (0, false, 0)
 have hpast := fun (W : World) h1 h2 => past_sx sb now base ao n cap rs qa qn qc q 10 W h1 hn hnow hs hqn h2
 have e10 : wd 10 = 10 := by unfold wd; omega
 rw [e10] at hpast
 have hm0 := h.later hb0
 have hq0 := hq.later hb0
 generalize addAll 10 now [] (smpR q rs) = l at *
 have hlast := fun rb W hW => Rn.last_any rb l 10 now W hW
 clear h hq hs e10
 generalize lst l = t at *
 obtain ⟨t1, t2, t3⟩ := t
 generalize (!l.isEmpty) = z at *
 go_enter Tryz.func25, Tryz.ntmps25
 go_wp2_with fail
 refine (hpast _ hm0 hq0).mono ?_
 rintro e w1 ⟨rb, rfl, hst, hrb, hb1⟩
 have hB1 := Below.chain hb0 hb1
 have hx1 := hx.later hb1
 have hfd := fun W => field_past rb 10 now W
 go_wp2_with fail
 refine (hlast _ _ hst.m).mono ?_
 rintro e w2 ⟨rfl, hb2⟩
 have hB2 := Below.chain hB1 hb2
 have hx2 := hx1.later hb2
 obtain ⟨c0, c1, c2, f0, f1, f2⟩ := id hx2
 obtain ⟨p0, p1, p2, _, _, _⟩ := hx2.put (t1, t2, t3)
 clear hpast hlast hm0 hq0
 go_wp2
 exact bodyPost_ret (v := .tuple #[sv (t1, t2, t3), .bool z]) (by simp [results, Tryz.results25, go_sem, p0, p1, p2]) rfl ⟨rfl, below3 hB2 (Nat.le_refl _) 0 (t1, t2, t3)⟩
set_option maxRecDepth 100000 in
theorem window_sx (sb : Nat) (now : Int) (base : Nat) (ao : Option Addr) (n cap : Nat) (rs : List SRec) (qa : Option Addr) (qn qc : Nat) (q : List Lb.Pr) (d : Int) (w : World) (h : Sx w sb now base ao n cap rs) (hn : n ≤ 100) (hnow : 0 ≤ now ∧ now ≤ 1000000) (hs : Srt rs) (hqn : qn ≤ 1000000) (hq : Lb.Ps w qa qn q) :
  Calls Tryz.prog 20 #[.pointer (some ⟨sb, 0, none⟩), .slice qa qn qc, .int .i64 d] w fun e w' => ∃ v, e = .returned v ∧ Own w' w.heap.size v (addAll (wd d) now [] (smpR q rs)) ∧ Below w.heap.size w w' := by
 have hpast := fun (W : World) h1 h2 => past_sx sb now base ao n cap rs qa qn qc q d W h1 hn hnow hs hqn h2
 generalize addAll (wd d) now [] (smpR q rs) = l at *
 generalize wd d = k at *
 go_enter Tryz.func20, Tryz.ntmps20
 go_wp2_with fail
 refine (hpast _ h hq).mono ?_
 rintro e w1 ⟨rb, rfl, hst, hrb, hb1⟩
 have hfd := fun W => field_past rb k now W
 have hall := fun W hW => Rn.all_any rb l k now W hW
 go_wp2_with fail
 refine (hall _ hst.m).mono ?_
 rintro e w2 ⟨v, rfl, hov, hb2⟩
 have hB2 := Below.chain hb1 hb2
 have hsz := hb1.size
 go_wp2
 go_ret
 exact ⟨v, rfl, own_base hov hsz, hB2⟩
end Go.Proofs.YtjgckfcocmhnhaaGreatDoor.Sr
namespace Go.Proofs.YtjgckfcocmhnhaaGreatDoor.Sr
open Go.RowKit Rn
/-- A number in a block of its own. -/
theorem Box.put33 {w : World} {b : Nat} {o : Bool} {n : Int} (h : Box w b o n) (p : Bool) (m : Int) : ((w.setCell ⟨b, 0, none⟩ (.bool p)).setCell ⟨b, 1, none⟩ (.int .i64 m)).cell? ⟨b, 0, none⟩ = some (.bool p) ∧ ((w.setCell ⟨b, 0, none⟩ (.bool p)).setCell ⟨b, 1, none⟩ (.int .i64 m)).cell? ⟨b, 1, none⟩ = some (.int .i64 m) := by
 obtain ⟨p0, p1, _, _⟩ := h.put (p := p) (m := m)
 exact ⟨p0, p1⟩
set_option maxHeartbeats 4000000 in
set_option maxRecDepth 100000 in
theorem best_any (rb : Nat) (l : List Smp) (k t : Int) (g : Bool) (w : World) (h : St w rb l k t) :
  Calls Tryz.prog 93 #[pv rb k t, .bool g] w fun e w' => e = .returned (.tuple #[.agg #[.bool (Ex.bst g (addAll k t [] l)).2.1, .int .i64 (Ex.bst g (addAll k t [] l)).2.2], .bool (!(addAll k t [] l).isEmpty)]) ∧ Below w.heap.size w w' := by
 have hk := h.f.k1
 have ht := h.f.n1
 have hle : l.length ≤ 100 := h.f.le
 have hrg : ∀ s ∈ l, R64 s.2.2 := h.f.rg
 have ec : Ex.clamp k = k := by unfold Ex.clamp; rw [if_neg (by omega), if_neg (by omega)]
 have eo : onw 0 t = t := by unfold onw; omega
 have hnew := fun W => Ex.new_st k g W
 rw [ec] at hnew
 have hall := fun W hW => Rn.all_any rb l k t W hW
 have hfill := fun b ao m cap W hW hm hl hne => fill_ext b [] k 0 t g ao m cap l W hW hm hl hne hrg
 rw [eo] at hfill
 have ef : fg (t - k) [] = [] := rfl
 rw [ef] at hfill
 have hget := fun b W hW => Ex.get_st b (addAll k t [] l) k t g W hW
 have hb0 := bal (bal (Below.refl _ w) (.cells #[.pointer (some ⟨rb, 0, none⟩), .int .i64 k, .int .i64 t] 109)) (.cells #[.bool false, .int .i64 0] 33)
 have hx := (BoxV.new w (.pointer (some ⟨rb, 0, none⟩)) (.int .i64 k) (.int .i64 t) 109).later (bal (Below.refl _ _) (.cells #[.bool false, .int .i64 0] 33))
 have hy := Box.new (w.alloc (.cells #[.pointer (some ⟨rb, 0, none⟩), .int .i64 k, .int .i64 t] 109)) false 0
 have hz : (w.alloc (.cells #[.pointer (some ⟨rb, 0, none⟩), .int .i64 k, .int .i64 t] 109)).heap.size = w.heap.size + 1 := by simp
 have hz2 : ((w.alloc (.cells #[.pointer (some ⟨rb, 0, none⟩), .int .i64 k, .int .i64 t] 109)).alloc (.cells #[.bool false, .int .i64 0] 33)).heap.size = w.heap.size + 2 := by simp
 rw [hz] at hy
 have HZ : Hid _ := hz2
 clear hz ec eo hk hz2 ef
 have HRM : Hid (∀ W, Below w.heap.size w W → Rl W rb l k t) := fun W hW => h.m.later hW
 generalize addAll k t [] l = l2 at *
 generalize hbst : Ex.bst g l2 = bs at *
 obtain ⟨bs1, bs2, bs3⟩ := bs
 generalize (!l2.isEmpty) = z at *
 clear h hbst
 go_enter Tryz.func93, Tryz.ntmps93
 go_wp2_with fail
 obtain ⟨cx0, cx1, cx2, _, _, _⟩ := id hx
 generalize (w.alloc (.cells #[.pointer (some ⟨rb, 0, none⟩), .int .i64 k, .int .i64 t] 109)).alloc (.cells #[.bool false, .int .i64 0] 33) = w0 at *
 refine (hnew _).mono ?_
 rintro e w1 ⟨rfl, hs1, hb1⟩
 have hB1 := Below.chain hb0 hb1
 have HSS : Hid (∀ W, Below w0.heap.size w0 W → (fun W : World => W.cell? ⟨w.heap.size, 0, none⟩ = some (.pointer (some ⟨rb, 0, none⟩)) ∧ W.cell? ⟨w.heap.size, 1, none⟩ = some (.int .i64 k) ∧ W.cell? ⟨w.heap.size, 2, none⟩ = some (.int .i64 t)) W) := fun W hW => by obtain ⟨a0, a1, a2, _, _, _⟩ := hx.later hW; exact ⟨a0, a1, a2⟩
 skip
 clear cx0 cx1 cx2
 go_wp2_with fail
 have hb1d := hb1.drew
 have hs1d := hs1.later (Below.refl _ w1).drew
 have hS0 := HSS.out _ hb1d
 refine wp_region_noPanic ?_
 refine wp_region_held_drew (S := (fun W : World => W.cell? ⟨w.heap.size, 0, none⟩ = some (.pointer (some ⟨rb, 0, none⟩)) ∧ W.cell? ⟨w.heap.size, 1, none⟩ = some (.int .i64 k) ∧ W.cell? ⟨w.heap.size, 2, none⟩ = some (.int .i64 t))) (by kernel_rfl) hS0 (fun _ => ?_)
 refine take_at 0 (some 11) (.pointer (some ⟨w0.heap.size, 0, none⟩)) rfl rfl (by kernel_rfl) (by kernel_rfl) (by kernel_rfl) (fun _ _ _ h => h) (by rfl) (fun W hSw => by obtain ⟨q0, q1, q2⟩ := hSw; go_simp) hS0 ?_
 simp only [Act.put, List.setIfInBounds_toArray, List.set_cons_zero, List.set_cons_succ]
 refine take_at 1 (some 12) (.iface 158 (.pointer (some ⟨w0.heap.size, 0, none⟩))) rfl rfl (by kernel_rfl) (by kernel_rfl) (by kernel_rfl) (fun _ _ _ h => h) (by rfl) (fun W hSw => by obtain ⟨q0, q1, q2⟩ := hSw; go_simp) hS0 ?_
 simp only [Act.put, List.setIfInBounds_toArray, List.set_cons_zero, List.set_cons_succ]
 refine take_at 2 (some 13) (.pointer (some ⟨w.heap.size, 2, none⟩)) rfl rfl (by kernel_rfl) (by kernel_rfl) (by kernel_rfl) (fun _ _ _ h => h) (by rfl) (fun W hSw => by obtain ⟨q0, q1, q2⟩ := hSw; go_simp) hS0 ?_
 simp only [Act.put, List.setIfInBounds_toArray, List.set_cons_zero, List.set_cons_succ]
 refine take_at 3 (some 14) (.int .i64 t) rfl rfl (by kernel_rfl) (by kernel_rfl) (by kernel_rfl) (fun _ _ _ h => h) (by rfl) (fun W hSw => by obtain ⟨q0, q1, q2⟩ := hSw; go_simp) hS0 ?_
 simp only [Act.put, List.setIfInBounds_toArray, List.set_cons_zero, List.set_cons_succ]
 refine take_at 4 (some 15) (.pointer (some ⟨w.heap.size, 0, none⟩)) rfl rfl (by kernel_rfl) (by kernel_rfl) (by kernel_rfl) (fun _ _ _ h => h) (by rfl) (fun W hSw => by obtain ⟨q0, q1, q2⟩ := hSw; go_simp) hS0 ?_
 simp only [Act.put, List.setIfInBounds_toArray, List.set_cons_zero, List.set_cons_succ]
 refine take_at 5 (some 16) (.pointer (some ⟨rb, 0, none⟩)) rfl rfl (by kernel_rfl) (by kernel_rfl) (by kernel_rfl) (fun _ _ _ h => h) (by rfl) (fun W hSw => by obtain ⟨q0, q1, q2⟩ := hSw; go_simp) hS0 ?_
 simp only [Act.put, List.setIfInBounds_toArray, List.set_cons_zero, List.set_cons_succ]
 refine take_at 6 (some 17) (.pointer (some ⟨rb, 0, none⟩)) rfl rfl (by kernel_rfl) (by kernel_rfl) (by kernel_rfl) (fun _ _ _ h => h) (by rfl) (fun W hSw => by obtain ⟨q0, q1, q2⟩ := hSw; go_simp) hS0 ?_
 simp only [Act.put, List.setIfInBounds_toArray, List.set_cons_zero, List.set_cons_succ]
 refine take_at 7 (some 18) (.pointer (some ⟨rb, 0, none⟩)) rfl rfl (by kernel_rfl) (by kernel_rfl) (by kernel_rfl) (fun _ _ _ h => h) (by rfl) (fun W hSw => by obtain ⟨q0, q1, q2⟩ := hSw; go_simp) hS0 ?_
 simp only [Act.put, List.setIfInBounds_toArray, List.set_cons_zero, List.set_cons_succ]
 refine wpAnyH_ready (rs := [8]) (by kernel_rfl) (by simp) ?_
 refine AllReadyH.cons rfl (fun K hK => ?_) AllReadyH.nil
 go_simp
 refine (hall _ (HRM.out _ hB1.drew)).mono ?_
 rintro e w2 ⟨v, rfl, hov, hb2⟩
 have hb2' := Below.chain hb1d hb2
 have hle1 : l.length ≤ 1000 := Nat.le_trans hle (by decide)
 have hs2 := hs1d.later hb2
 obtain ⟨va, vc, rfl, hms⟩ := hov.slice
 have hne : ∀ a, va = some a → 0 < l.length → a.block ≠ w0.heap.size := fun a ha hp e => by
  have h1 := (World.ownsRow.lt hov a.block (by rw [ha]; rfl)).1
  have h2 := hs1d.m.lt
  omega
 refine hK.out _ _ (HSS.out _ hb2') (fun _ => ?_)
 clear hK K
 refine wpAnyH_ready (rs := [9]) (by kernel_rfl) (by simp) ?_
 refine AllReadyH.cons rfl (fun K hK => ?_) AllReadyH.nil
 go_simp
 refine (hfill _ _ _ _ _ hs2 hle1 hms hne).mono ?_
 rintro e w3 ⟨rfl, hs3, hg3⟩
 have hb3 : Below w0.heap.size w0 w3 := grown_above hb2' hg3 hb2'.size (Nat.le_refl _)
 refine hK.out _ _ (HSS.out _ hb3) (fun _ => ?_)
 clear hK K
 refine wpAnyH_done (by kernel_rfl) ?_ _
 refine NoPanic.normal ?_
 go_wp2_with fail
 refine (hget _ _ hs3).mono ?_
 rintro e w4 ⟨rfl, hb4⟩
 have hb4' := Below.chain hb3 hb4
 have hy4 := hy.later hb4'
 obtain ⟨c0, c1, f0, f1⟩ := id hy4
 obtain ⟨p0, p1⟩ := Box.put33 hy4 bs2 bs3
 clear hnew hall hfill hget
 go_wp2
 exact bodyPost_ret (v := .tuple #[.agg #[.bool bs2, .int .i64 bs3], .bool z]) (by simp [results, Tryz.results93, go_sem, p0, p1]) rfl ⟨rfl, put2 (Below.chain hb0 hb4') (by omega) _ _⟩
 end Go.Proofs.YtjgckfcocmhnhaaGreatDoor.Sr
namespace Go.Proofs.YtjgckfcocmhnhaaGreatDoor.Sr
open Go.RowKit Rn
/-- What a window rose by, a tick. -/
def rteP (l : List Smp) (k : Int) : Option Int := fDiv (incP l) (fOf k)
set_option maxHeartbeats 4000000 in
set_option maxRecDepth 100000 in
theorem rate_no (rb : Nat) (l : List Smp) (k t : Int) (w : World) (h : St w rb l k t) (hl : l.length < 2) :
  Calls Tryz.prog 95 #[pv rb k t] w fun e w' => e = .returned (.tuple #[.agg #[.bool false, .int .i64 0], .bool false]) ∧ Below w.heap.size w w' := by
 have hle : l.length ≤ 100 := h.f.le
 have hrg : ∀ s ∈ l, R64 s.2.2 := h.f.rg
 have hall := fun W hW => Rn.all_any rb l k t W hW
 have hof := fun ao cap W hs => of_row ao l.length cap l W hle hs hrg
 rw [if_pos hl] at hof
 have hb0 := bal (bal (Below.refl _ w) (.cells #[.pointer (some ⟨rb, 0, none⟩), .int .i64 k, .int .i64 t] 109)) (.cells #[.bool false, .int .i64 0] 33)
 have hx := (BoxV.new w (.pointer (some ⟨rb, 0, none⟩)) (.int .i64 k) (.int .i64 t) 109).later (bal (Below.refl _ _) (.cells #[.bool false, .int .i64 0] 33))
 have hy := Box.new (w.alloc (.cells #[.pointer (some ⟨rb, 0, none⟩), .int .i64 k, .int .i64 t] 109)) false 0
 have hz : (w.alloc (.cells #[.pointer (some ⟨rb, 0, none⟩), .int .i64 k, .int .i64 t] 109)).heap.size = w.heap.size + 1 := by simp
 rw [hz] at hy
 have hz2 : ((w.alloc (.cells #[.pointer (some ⟨rb, 0, none⟩), .int .i64 k, .int .i64 t] 109)).alloc (.cells #[.bool false, .int .i64 0] 33)).heap.size = w.heap.size + 2 := by simp
 have HZ : Hid _ := hz2
 have hm0 := h.m.later hb0
 clear hz hz2 h hl
 obtain ⟨cx0, cx1, cx2, _, _, _⟩ := id hx
 go_enter Tryz.func95, Tryz.ntmps95
 go_wp2_with fail
 generalize (w.alloc (.cells #[.pointer (some ⟨rb, 0, none⟩), .int .i64 k, .int .i64 t] 109)).alloc (.cells #[.bool false, .int .i64 0] 33) = w0 at *
 refine (hall _ hm0).mono ?_
 rintro e w1 ⟨v, rfl, hov, hb1⟩
 obtain ⟨va, vc, rfl, hms⟩ := hov.slice
 go_wp2_with fail
 refine (hof _ _ _ hms).mono ?_
 rintro e w2 ⟨rfl, hb2⟩
 have hb2' := Below.chain hb1 hb2
 have hbA := bal (Below.refl _ w2) (.cells #[.bool false, .int .i64 0] 33)
 have hy3 := (hy.later hb2').later hbA
 obtain ⟨c0, c1, f0, f1⟩ := id hy3
 obtain ⟨p0, p1⟩ := Box.put33 hy3 false 0
 clear hall hof
 go_wp2
 exact bodyPost_ret (v := .tuple #[.agg #[.bool false, .int .i64 0], .bool false]) (by simp [results, Tryz.results95, go_sem, p0, p1]) rfl ⟨rfl, put2 (Below.chain (Below.chain hb0 hb2') hbA) (by omega) _ _⟩
set_option maxHeartbeats 4000000 in
set_option maxRecDepth 100000 in
theorem rate_yes (rb : Nat) (l : List Smp) (k t : Int) (w : World) (h : St w rb l k t) (hl : ¬ l.length < 2) :
  Calls Tryz.prog 95 #[pv rb k t] w fun e w' => e = .returned (.tuple #[.agg #[.bool (ov (rteP l k)), .int .i64 (nn (rteP l k))], .bool true]) ∧ Below w.heap.size w w' := by
 have hle : l.length ≤ 100 := h.f.le
 have hrg : ∀ s ∈ l, R64 s.2.2 := h.f.rg
 have hall := fun W hW => Rn.all_any rb l k t W hW
 have hof := fun ao cap W hs => of_row ao l.length cap l W hle hs hrg
 rw [if_neg hl] at hof
 have hkr : R64 k := by have := h.f.k1; unfold R64; omega
 have hfo := fun W => of_any k W hkr
 have hv1 : V (incP l) := V.sum _
 have hv2 : V (fOf k) := V.norm _
 have hq := fun W => quo_any (ov (incP l)) (ov (fOf k)) (nn (incP l)) (nn (fOf k)) W (V.r64 hv1) (V.r64 hv2)
 rw [cnt_val hv1, cnt_val hv2] at hq
 have er : fDiv (incP l) (fOf k) = rteP l k := rfl
 rw [er] at hq
 have hb0 := bal (bal (Below.refl _ w) (.cells #[.pointer (some ⟨rb, 0, none⟩), .int .i64 k, .int .i64 t] 109)) (.cells #[.bool false, .int .i64 0] 33)
 have hx := (BoxV.new w (.pointer (some ⟨rb, 0, none⟩)) (.int .i64 k) (.int .i64 t) 109).later (bal (Below.refl _ _) (.cells #[.bool false, .int .i64 0] 33))
 have hy := Box.new (w.alloc (.cells #[.pointer (some ⟨rb, 0, none⟩), .int .i64 k, .int .i64 t] 109)) false 0
 have hz : (w.alloc (.cells #[.pointer (some ⟨rb, 0, none⟩), .int .i64 k, .int .i64 t] 109)).heap.size = w.heap.size + 1 := by simp
 rw [hz] at hy
 have hz2 : ((w.alloc (.cells #[.pointer (some ⟨rb, 0, none⟩), .int .i64 k, .int .i64 t] 109)).alloc (.cells #[.bool false, .int .i64 0] 33)).heap.size = w.heap.size + 2 := by simp
 have HZ : Hid _ := hz2
 have hm0 := h.m.later hb0
 clear hz hz2 h hl er hv1 hv2 hkr
 generalize ov (rteP l k) = ro at *
 generalize nn (rteP l k) = rn at *
 generalize ov (incP l) = io at *
 generalize nn (incP l) = iN at *
 generalize ov (fOf k) = ko at *
 generalize nn (fOf k) = kn at *
 obtain ⟨cx0, cx1, cx2, _, _, _⟩ := id hx
 go_enter Tryz.func95, Tryz.ntmps95
 go_wp2_with fail
 generalize (w.alloc (.cells #[.pointer (some ⟨rb, 0, none⟩), .int .i64 k, .int .i64 t] 109)).alloc (.cells #[.bool false, .int .i64 0] 33) = w0 at *
 refine (hall _ hm0).mono ?_
 rintro e w1 ⟨v, rfl, hov, hb1⟩
 obtain ⟨va, vc, rfl, hms⟩ := hov.slice
 go_wp2_with fail
 refine (hof _ _ _ hms).mono ?_
 rintro e w2 ⟨rfl, hb2⟩
 have hb2' := Below.chain hb1 hb2
 have hbA := bal (Below.refl _ w2) (.cells #[.bool io, .int .i64 iN] 33)
 have hxA := Box.new w2 io iN
 have hB3 := Below.chain hb2' hbA
 have hy3 := hy.later hB3
 have hx3 := hx.later hB3
 have hsz : w.heap.size + 1 < w2.heap.size := by have h1 := HZ.out; have h2 := hb2'.size; omega
 have HSZ : Hid _ := hsz
 clear hall hof cx0 cx1 cx2 hsz
 go_wp2_with fail
 have hB3w := Below.chain hb0 hB3
 generalize w2.heap.size = bA at *
 generalize w2.alloc (.cells #[.bool io, .int .i64 iN] 33) = w3 at *
 have HSS : Hid (∀ W, Below w3.heap.size w3 W → (fun W : World => W.cell? ⟨w.heap.size, 1, none⟩ = some (.int .i64 k) ∧ W.cell? ⟨bA, 0, none⟩ = some (.bool io) ∧ W.cell? ⟨bA, 1, none⟩ = some (.int .i64 iN)) W) := fun W hW => by obtain ⟨_, a1, _, _, _, _⟩ := hx3.later hW; obtain ⟨b0, b1, _, _⟩ := hxA.later hW; exact ⟨a1, b0, b1⟩
 have hb3d := (Below.refl w3.heap.size w3).drew
 have hS0 := HSS.out _ hb3d
 refine wp_region_noPanic ?_
 refine wp_region_held_drew (S := (fun W : World => W.cell? ⟨w.heap.size, 1, none⟩ = some (.int .i64 k) ∧ W.cell? ⟨bA, 0, none⟩ = some (.bool io) ∧ W.cell? ⟨bA, 1, none⟩ = some (.int .i64 iN))) (by kernel_rfl) hS0 (fun _ => ?_)
 refine take_at 0 (some 18) (.agg #[.bool io, .int .i64 iN]) rfl rfl (by kernel_rfl) (by kernel_rfl) (by kernel_rfl) (fun _ _ _ h => h) (by rfl) (fun W hSw => by obtain ⟨q0, q1, q2⟩ := hSw; go_simp) hS0 ?_
 simp only [Act.put, List.setIfInBounds_toArray, List.set_cons_zero, List.set_cons_succ]
 refine take_at 1 (some 19) (.pointer (some ⟨w.heap.size, 1, none⟩)) rfl rfl (by kernel_rfl) (by kernel_rfl) (by kernel_rfl) (fun _ _ _ h => h) (by rfl) (fun W hSw => by obtain ⟨q0, q1, q2⟩ := hSw; go_simp) hS0 ?_
 simp only [Act.put, List.setIfInBounds_toArray, List.set_cons_zero, List.set_cons_succ]
 refine take_at 2 (some 20) (.int .i64 k) rfl rfl (by kernel_rfl) (by kernel_rfl) (by kernel_rfl) (fun _ _ _ h => h) (by rfl) (fun W hSw => by obtain ⟨q0, q1, q2⟩ := hSw; go_simp) hS0 ?_
 simp only [Act.put, List.setIfInBounds_toArray, List.set_cons_zero, List.set_cons_succ]
 refine wpAnyH_ready (rs := [3]) (by kernel_rfl) (by simp) ?_
 refine AllReadyH.cons rfl (fun K hK => ?_) AllReadyH.nil
 go_simp
 refine (hfo _).mono ?_
 rintro e w4 ⟨rfl, hb4⟩
 have hb4' := Below.chain hb3d hb4
 refine hK.out _ _ (HSS.out _ hb4') (fun _ => ?_)
 clear hK K
 refine wpAnyH_ready (rs := [4]) (by kernel_rfl) (by simp) ?_
 refine AllReadyH.cons rfl (fun K hK => ?_) AllReadyH.nil
 go_simp
 refine (hq _).mono ?_
 rintro e w5 ⟨rfl, hb5⟩
 have hb5' := Below.chain hb4' hb5
 refine hK.out _ _ (HSS.out _ hb5') (fun _ => ?_)
 clear hK K
 have hy5 := hy3.later hb5'
 have hs5 := HSS.out _ hb5'
 obtain ⟨c0, c1, f0, f1⟩ := id hy5
 obtain ⟨p0, p1⟩ := Box.put33 hy5 ro rn
 have hg5 : w5.grownBy ((w5.setCell ⟨w.heap.size + 1, 0, none⟩ (.bool ro)).setCell ⟨w.heap.size + 1, 1, none⟩ (.int .i64 rn)) (some (w.heap.size + 1)) := (grown_set _ _ _ _).trans (grown_set _ _ _ _)
 have hne : some bA ≠ some (w.heap.size + 1) := fun e => by have := HSZ.out; injection e with e; omega
 refine wpAnyH_ready (rs := [5]) (by kernel_rfl) (by simp) ?_
 refine AllReadyH.cons rfl (fun K hK => ?_) AllReadyH.nil
 go_simp
 refine hK.out _ _ (show (fun W : World => W.cell? ⟨w.heap.size, 1, none⟩ = some (.int .i64 k) ∧ W.cell? ⟨bA, 0, none⟩ = some (.bool io) ∧ W.cell? ⟨bA, 1, none⟩ = some (.int .i64 iN)) _ from ⟨grown_cell hg5 hs5.1 (by simp), grown_cell hg5 hs5.2.1 hne, grown_cell hg5 hs5.2.2 hne⟩) (fun _ => ?_)
 clear hK K
 refine take_at 6 (some 3) (.bool true) rfl rfl (by kernel_rfl) (by kernel_rfl) (by kernel_rfl) (fun _ _ _ h => h) (by rfl) (fun W hSw => by go_simp) (show (fun W : World => W.cell? ⟨w.heap.size, 1, none⟩ = some (.int .i64 k) ∧ W.cell? ⟨bA, 0, none⟩ = some (.bool io) ∧ W.cell? ⟨bA, 1, none⟩ = some (.int .i64 iN)) _ from ⟨grown_cell hg5 hs5.1 (by simp), grown_cell hg5 hs5.2.1 hne, grown_cell hg5 hs5.2.2 hne⟩) ?_
 simp only [Act.put, List.setIfInBounds_toArray, List.set_cons_zero, List.set_cons_succ]
 refine wpAnyH_done (by kernel_rfl) ?_ _
 refine NoPanic.normal ?_
 go_wp2
 exact bodyPost_ret (v := .tuple #[.agg #[.bool ro, .int .i64 rn], .bool true]) (by simp [results, Tryz.results95, go_sem, p0, p1]) rfl ⟨rfl, put2 (Below.chain hB3w hb5') (by omega) _ _⟩
end Go.Proofs.YtjgckfcocmhnhaaGreatDoor.Sr
