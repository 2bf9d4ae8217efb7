/- Texts that the others lean on. -/
import Derived.Test.YtjgckfcocmhnhaaGreatDoorKMU
import Derived.Test.YtjgckfcocmhnhaaGreatDoorKMS
import Derived.Test.YtjgckfcocmhnhaaGreatDoorKMT
import Derived.BigRegion
import Derived.BigQuiet
namespace Go.Proofs.YtjgckfcocmhnhaaGreatDoor.Sr
open Go.RowKit Rn
theorem add_bad (sb : Nat) (qa : Option Addr) (qn qc : Nat) (q : List Lb.Pr) (s : Smp) (w : World) (hqn : qn ≤ 1000000) (hq : Lb.Ps w qa qn q) (hfit : Lb.Fit q) (hbad : Lb.fIs q = false) :
  Calls Tryz.prog 13 #[.pointer (some ⟨sb, 0, none⟩), .slice qa qn qc, sv s] w fun e w' => e = .returned (.int .i64 30) ∧ Below w.heap.size w w' := by
 obtain ⟨s1, s2, s3⟩ := s
 have hb0 := bal (Below.refl _ w) (.cells #[.int .i64 s1, .bool s2, .int .i64 s3] 35)
 have his := fun W hW => Lb.is_any qa qn qc q W (by omega) hfit hW
 rw [hbad] at his
 have hq0 := hq.later hb0
 clear hq hfit hbad
 go_enter Tryz.func13, Tryz.ntmps13
 go_wp2_with fail
 refine (his _ hq0).mono ?_
 rintro e w1 ⟨rfl, hb1⟩
 go_wp2
 go_ret
 exact ⟨rfl, Below.chain hb0 hb1⟩
set_option maxHeartbeats 4000000 in
set_option maxRecDepth 100000 in
theorem add_found (sb : Nat) (now : Int) (base : Nat) (ao : Option Addr) (n cap : Nat) (rs : List SRec) (qa : Option Addr) (qn qc : Nat) (q : List Lb.Pr) (s : Smp) (w : World) (h : Sx w sb now base ao n cap rs) (hn : n ≤ 100) (hs : Srt rs) (hqn : qn ≤ 1000000) (hq : Lb.Ps w qa qn q) (hfit : Lb.Fit q) (hok : Lb.fIs q = true) (hr : R64 s.2.2) (hf : fndR q rs = true) :
  Calls Tryz.prog 13 #[.pointer (some ⟨sb, 0, none⟩), .slice qa qn qc, sv s] w fun e w' => e = .returned (.int .i64 (adE (rs.getD (posR q rs) r0).l 100 (rs.getD (posR q rs) r0).t s.1)) ∧ St w' (rs.getD (posR q rs) r0).ring (adL (rs.getD (posR q rs) r0).l 100 (rs.getD (posR q rs) r0).t s) 100 (rs.getD (posR q rs) r0).t ∧ w.grownBy w' (some (rs.getD (posR q rs) r0).ring) := by
 have hp : posR q rs < rs.length := by
  unfold fndR at hf
  rw [Bool.and_eq_true, decide_eq_true_eq] at hf
  exact hf.1
 have hln := h.len
 obtain ⟨s1, s2, s3⟩ := s
 have hb0 := bal (Below.refl _ w) (.cells #[.int .i64 s1, .bool s2, .int .i64 s3] 35)
 have hx := BoxS.new w (s1, s2, s3)
 have his := fun W hW => Lb.is_any qa qn qc q W (by omega) hfit hW
 rw [hok] at his
 have hfind := fun W h1 h2 => find_any sb now base ao n cap rs qa qn qc q W (by omega) h1 hs hqn h2
 rw [hf] at hfind
 have hadd := fun (W : World) hW => add_st (rs.getD (posR q rs) r0).ring (rs.getD (posR q rs) r0).l 100 (rs.getD (posR q rs) r0).t (s1, s2, s3) W hW hr
 have hst := h.s _ (getD_mem hp)
 have hring : Hid ((rs.getD (posR q rs) r0).ring < w.heap.size) := hst.m.lt
 obtain ⟨g, e, -, hc⟩ := h.os.2 (by omega)
 subst e
 obtain ⟨p0, p1⟩ := hc (posR q rs) (by omega)
 have c0 := h.c0
 have HX : Hid _ := h
 have HQ : Hid (∀ W, Below w.heap.size w W → Lb.Ps W qa qn q) := fun W hW => hq.later hW
 clear hc hs hfit hok hf h hq
 generalize posR q rs = p at *
 generalize rs.getD p r0 = y at *
 obtain ⟨lab, rb, sy, ly, ty⟩ := y
 dsimp only at *
 have hpn : p < n := by omega
 clear hp hln
 go_enter Tryz.func13, Tryz.ntmps13
 go_wp2_with fail
 refine (his _ (HQ.out _ hb0)).mono ?_
 rintro e w1 ⟨rfl, hb1⟩
 have hB1 := Below.chain hb0 hb1
 go_wp2_with fail
 refine (hfind _ (HX.out.later hB1) (HQ.out _ hB1)).mono ?_
 rintro e w2 ⟨rfl, hb2⟩
 have hB2 := Below.chain hB1 hb2
 have hx2 := (hx.later hb1).later hb2
 have d0 := (hB2.cell (p := ⟨sb, 0, none⟩) (World.block_lt_of_cell? _ _ c0)).trans c0
 have d1 := (hB2.cell (p := ⟨g, p * 2 + 1, none⟩) (World.block_lt_of_cell? _ _ p1)).trans p1
 have hst2 := hst.later hB2
 obtain ⟨x0, x1, x2, _, _, _⟩ := hx2
 clear his hfind p0 p1 c0 hst
 go_wp2_with fail
 go_region_with (go_at_call 33; refine (hadd _ (hst2.later (by first | exact Below.refl _ _ | exact (Below.refl _ _).drew))).mono ?_; rintro e w' ⟨rfl, hs3, hg3⟩)
 all_goals
  go_wp2
  go_ret
  exact ⟨rfl, hs3, (grown_below (hB2.trans (Below.refl _ _).drew) _).trans hg3⟩
end Go.Proofs.YtjgckfcocmhnhaaGreatDoor.Sr
namespace Go.Proofs.YtjgckfcocmhnhaaGreatDoor.Sr
open Go.RowKit Rn
theorem ap_insert {rs : List SRec} {r : SRec} {p : Nat} (h : rs.Pairwise (fun a b => a.ring ≠ b.ring)) (hr : ∀ x ∈ rs, x.ring ≠ r.ring) : (rs.take p ++ r :: rs.drop p).Pairwise (fun a b => a.ring ≠ b.ring) := by
 rw [List.pairwise_append, List.pairwise_cons]
 refine ⟨h.sublist (List.take_sublist _ _), ⟨fun x hx => (hr x (List.mem_of_mem_drop hx)).symm, h.sublist (List.drop_sublist _ _)⟩, fun a ha b hb => ?_⟩
 rcases List.mem_cons.1 hb with rfl | hb
 ·
  exact hr a (List.mem_of_mem_take ha)
 ·
  rw [← List.take_append_drop p rs] at h
  exact (List.pairwise_append.1 h).2.2 a ha b hb
theorem mem_insert {rs : List SRec} {r x : SRec} {p : Nat} (h : x ∈ rs.take p ++ r :: rs.drop p) : x = r ∨ x ∈ rs := by
 rcases List.mem_append.1 h with h | h
 ·
  exact Or.inr (List.mem_of_mem_take h)
 ·
  rcases List.mem_cons.1 h with h | h
  ·
   exact Or.inl h
  ·
   exact Or.inr (List.mem_of_mem_drop h)
/-- A store's row anew, with a series more. -/
theorem sx_insert {w7 w8 : World} {sb : Nat} {now : Int} {base : Nat} {ao ao' : Option Addr} {n cap cap' p : Nat} {rs : List SRec} {r : SRec} (h : Sx w7 sb now base ao n cap rs)
  (ho : OwnO w8 base (.slice ao' (n + 1) cap') (rs.take p ++ r :: rs.drop p)) (hg : w7.grownBy w8 (Value.slice ao n cap).ownBlock) (hv : (Value.slice ao' (n + 1) cap').ownBlock = (Value.slice ao n cap).ownBlock ∨ ∀ k, (Value.slice ao' (n + 1) cap').ownBlock = some k → w7.heap.size ≤ k)
  (hq : Pq w7 r.lab r.set) (hs : St w7 r.ring r.l 100 r.t) (hr1 : r.ring ≠ sb) (hr2 : ∀ g, (Value.slice ao n cap).ownBlock = some g → g ≠ r.ring) (hr3 : ∀ x ∈ rs, ∀ g, x.lab.ownBlock = some g → g ≠ r.ring) (hr4 : ∀ g, r.lab.ownBlock = some g → g ≠ r.ring) (hr5 : ∀ x ∈ rs, x.ring ≠ r.ring) (hr6 : ∀ x ∈ rs, ∀ g, r.lab.ownBlock = some g → g ≠ x.ring) :
  w8.cell? ⟨sb, 0, none⟩ = some (.slice ao n cap) ∧ w8.frozen? ⟨sb, 0, none⟩ = false ∧ Sx (w8.setCell ⟨sb, 0, none⟩ (.slice ao' (n + 1) cap')) sb now base ao' (n + 1) cap' (rs.take p ++ r :: rs.drop p) ∧ Gf w7 (w8.setCell ⟨sb, 0, none⟩ (.slice ao' (n + 1) cap')) (Ft sb (.slice ao n cap) rs) := by
 have hne : some sb ≠ (Value.slice ao n cap).ownBlock := fun e => (row_ty h.p e.symm).ne h.t (by decide) rfl
 have c0 := grown_cell hg h.c0 hne
 have c1 := grown_cell hg h.c1 hne
 have f0 := grown_frozen hg h.t.lt h.f0 hne
 have f1 := grown_frozen hg h.t.lt h.f1 hne
 have t2 := h.t.kept hg hne
 have hg2 := grown_set w8 sb 0 (.slice ao' (n + 1) cap')
 have e := fun (j : Nat) => set_at (j := j) (v := .slice ao' (n + 1) cap') c0
 have hqs : ∀ x, x = r ∨ x ∈ rs → Pq w7 x.lab x.set := by
  rintro x (rfl | hx)
  ·
   exact hq
  ·
   exact h.q x hx
 have hss : ∀ x, x = r ∨ x ∈ rs → St w7 x.ring x.l 100 x.t := by
  rintro x (rfl | hx)
  ·
   exact hs
  ·
   exact h.s x hx
 have hn1 : ∀ x, x = r ∨ x ∈ rs → x.ring ≠ sb := by
  rintro x (rfl | hx)
  ·
   exact hr1
  ·
   exact h.n1 x hx
 have hn2 : ∀ x, x = r ∨ x ∈ rs → ∀ g, (Value.slice ao n cap).ownBlock = some g → g ≠ x.ring := by
  rintro x (rfl | hx)
  ·
   exact hr2
  ·
   exact h.n2 x hx
 refine ⟨c0, f0, ⟨by rw [e, if_pos rfl], by rw [e, if_neg (by decide)]; exact c1, by simpa using f0, by simpa using f1, t2.set _ _, row_kept ho hg2 (row_ne ho t2 (by decide)), fun x hx => ?_, fun x hx => ?_, fun x hx => hn1 x (mem_insert hx), fun x hx g hgb => ?_, fun x hx y hy g hgb => ?_, ap_insert h.ap hr5⟩, ?_⟩
 ·
  have hq1 := hqs x (mem_insert hx)
  obtain ⟨xa, xn, xc, hv, _, _, ht⟩ := id hq1
  have hq2 := hq1.keptN hg (fun g hg' e1 => (ht g hg').ne (row_ty h.p e1.symm) (by decide) rfl)
  exact hq2.keptN hg2 (fun g hg' e1 => by obtain ⟨xa, xn, xc, hv, _, _, ht⟩ := hq2; exact (ht g hg').ne t2 (by decide) (by injection e1))
 ·
  have hs1 := (hss x (mem_insert hx)).kept hg (fun e1 => hn2 x (mem_insert hx) _ e1.symm rfl)
  exact hs1.kept hg2 (fun e1 => hn1 x (mem_insert hx) (by injection e1))
 ·
  rcases hv with hv | hv
  ·
   exact hn2 x (mem_insert hx) g (hv ▸ hgb)
  ·
   have := hv g hgb
   have := (hss x (mem_insert hx)).m.lt
   omega
 ·
  rcases mem_insert hx with e1 | hx2 <;> rcases mem_insert hy with e2 | hy2
  ·
   subst e1 e2; exact hr4 g hgb
  ·
   subst e1; exact hr3 y hy2 g hgb
  ·
   subst e2; exact hr6 x hx2 g hgb
  ·
   exact h.n3 x hx2 y hy2 g hgb
 ·
  exact (Gf.of hg (fun k e _ => Or.inr (Or.inl e))).step hg2 (fun k e _ => by cases e; exact Or.inl rfl)
end Go.Proofs.YtjgckfcocmhnhaaGreatDoor.Sr
namespace Go.Proofs.YtjgckfcocmhnhaaGreatDoor.Sr
open Go.RowKit Rn
/-- A block of two cells, new. -/
structure New74 (w : World) (b : Nat) : Prop where
 c0 : w.cell? ⟨b, 0, none⟩ = some (.slice none 0 0)
 c1 : w.cell? ⟨b, 1, none⟩ = some (.pointer none)
 f0 : w.frozen? ⟨b, 0, none⟩ = false
 f1 : w.frozen? ⟨b, 1, none⟩ = false
 t : Ty w b 74
theorem new74 (w : World) : New74 (w.alloc (.cells #[.slice none 0 0, .pointer none] 74)) w.heap.size := by
 refine ⟨?_, ?_, ?_, ?_, Ty.new _ _ _⟩ <;> simp [go_sem]
theorem New74.later {w w' : World} {b : Nat} (h : New74 w b) (hb : Below w.heap.size w w') : New74 w' b :=
 ⟨(hb.cell (p := ⟨b, 0, none⟩) h.t.lt).trans h.c0, (hb.cell (p := ⟨b, 1, none⟩) h.t.lt).trans h.c1, (hb.frozen (p := ⟨b, 0, none⟩) h.t.lt).trans h.f0, (hb.frozen (p := ⟨b, 1, none⟩) h.t.lt).trans h.f1, h.t.later hb⟩
theorem seat74 {w2 w6 : World} {ob rb : Nat} {now : Int} {xa : Option Addr} {xn xc : Nat} {q : List Lb.Pr} (u : New74 w6 ob) (hst : St w6 rb [] 100 now) (hpq : Pq w6 (.slice xa xn xc) q) (hB : Below w2.heap.size w2 w6) (hob : w2.heap.size ≤ ob) (hne : ob ≠ rb) :
  ((w6.setCell ⟨ob, 0, none⟩ (.slice xa xn xc)).setCell ⟨ob, 1, none⟩ (.pointer (some ⟨rb, 0, none⟩))).cell? ⟨ob, 0, none⟩ = some (.slice xa xn xc) ∧
  ((w6.setCell ⟨ob, 0, none⟩ (.slice xa xn xc)).setCell ⟨ob, 1, none⟩ (.pointer (some ⟨rb, 0, none⟩))).cell? ⟨ob, 1, none⟩ = some (.pointer (some ⟨rb, 0, none⟩)) ∧
  Pq ((w6.setCell ⟨ob, 0, none⟩ (.slice xa xn xc)).setCell ⟨ob, 1, none⟩ (.pointer (some ⟨rb, 0, none⟩))) (.slice xa xn xc) q ∧
  St ((w6.setCell ⟨ob, 0, none⟩ (.slice xa xn xc)).setCell ⟨ob, 1, none⟩ (.pointer (some ⟨rb, 0, none⟩))) rb [] 100 now ∧
  Below w2.heap.size w2 ((w6.setCell ⟨ob, 0, none⟩ (.slice xa xn xc)).setCell ⟨ob, 1, none⟩ (.pointer (some ⟨rb, 0, none⟩))) := by
 have hg := (grown_set w6 ob 0 (.slice xa xn xc)).trans (grown_set (w6.setCell ⟨ob, 0, none⟩ (.slice xa xn xc)) ob 1 (.pointer (some ⟨rb, 0, none⟩)))
 have e0 := fun (j : Nat) => set_at (j := j) (v := .slice xa xn xc) u.c0
 have k1 : (w6.setCell ⟨ob, 0, none⟩ (.slice xa xn xc)).cell? ⟨ob, 1, none⟩ = some (.pointer none) := by rw [e0, if_neg (by decide)]; exact u.c1
 have e1 := fun (j : Nat) => set_at (j := j) (v := .pointer (some ⟨rb, 0, none⟩)) k1
 refine ⟨by rw [e1, if_neg (by decide), e0, if_pos rfl], by rw [e1, if_pos rfl], hpq.keptN hg (fun g hg' e => ?_), hst.kept hg (fun e => hne (by injection e with e; exact e.symm)), (hB.setCell (p := ⟨ob, 0, none⟩) hob _).setCell (p := ⟨ob, 1, none⟩) hob _⟩
 obtain ⟨_, _, _, _, _, _, ht⟩ := hpq
 exact (ht g hg').ne u.t (by decide) (by injection e)
/-- The slice that a series is handed to Insert in. -/
structure NewAt (w7 W : World) (vb : Nat) (lab : Value) (rb : Nat) : Prop where
 b : Below w7.heap.size w7 W
 c0 : W.cell? ⟨vb, 0, none⟩ = some lab
 c1 : W.cell? ⟨vb, 1, none⟩ = some (.pointer (some ⟨rb, 0, none⟩))
 s : W.shape? vb = some (74, 2)
 f0 : W.frozen? ⟨vb, 0, none⟩ = false
 f2 : W.frozen? ⟨vb, 2, none⟩ = false
theorem newAt (w : World) (lab : Value) (rb : Nat) : NewAt w (w.alloc (.cells #[lab, .pointer (some ⟨rb, 0, none⟩)] 74)) w.heap.size lab rb := by
 refine ⟨bal (Below.refl _ _) _, by simp [go_sem], by simp [go_sem], ?_, by simp [go_sem], by simp [go_sem]⟩
 unfold World.shape?
 rw [heap_alloc_new]
 rfl
theorem NewAt.drew {w W : World} {vb : Nat} {lab : Value} {rb : Nat} (h : NewAt w W vb lab rb) : NewAt w W.drew vb lab rb := ⟨h.b.drew, h.c0, h.c1, h.s, h.f0, h.f2⟩
theorem newAtD (w : World) (lab : Value) (rb : Nat) : NewAt w (w.drew.alloc (.cells #[lab, .pointer (some ⟨rb, 0, none⟩)] 74)) w.heap.size lab rb := by
 have h := newAt w.drew lab rb
 exact ⟨(Below.refl w.heap.size w).drew.trans h.b, h.c0, h.c1, h.s, h.f0, h.f2⟩
set_option maxHeartbeats 4000000 in
set_option maxRecDepth 100000 in
theorem add_other (sb : Nat) (now : Int) (base : Nat) (ao : Option Addr) (n cap : Nat) (rs : List SRec) (qa : Option Addr) (qn qc : Nat) (q : List Lb.Pr) (s : Smp) (w : World) (h : Sx w sb now base ao n cap rs) (hn : n ≤ 100) (hnow : 0 ≤ now ∧ now ≤ 1000000) (hs : Srt rs) (hq : Pv w (.slice qa qn qc) q) (hfit : Lb.Fit q) (hok : Lb.fIs q = true) (hr : R64 s.2.2) (hf : fndR q rs = false) (hbase : base ≤ w.heap.size) :
  Calls Tryz.prog 13 #[.pointer (some ⟨sb, 0, none⟩), .slice qa qn qc, sv s] w fun e w' =>
   (adE [] 100 now s.1 ≠ 0 ∧ e = .returned (.int .i64 (adE [] 100 now s.1)) ∧ Below w.heap.size w w') ∨ (adE [] 100 now s.1 = 0 ∧ 16 ≤ n ∧ e = .returned (.int .i64 151) ∧ Below w.heap.size w w') ∨
   (adE [] 100 now s.1 = 0 ∧ n < 16 ∧ e = .returned (.int .i64 0) ∧ ∃ ao' cap' lab rb, Sx w' sb now base ao' (n + 1) cap' (rs.take (posR q rs) ++ ⟨lab, rb, q, [nrm s], now⟩ :: rs.drop (posR q rs)) ∧ Gf w w' (Ft sb (.slice ao n cap) rs) ∧ w.heap.size ≤ rb ∧ ((Value.slice ao' (n + 1) cap').ownBlock = (Value.slice ao n cap).ownBlock ∨ ∀ k, (Value.slice ao' (n + 1) cap').ownBlock = some k → w.heap.size ≤ k)) := by
 obtain ⟨s1, s2, s3⟩ := s
 have hqn : qn ≤ 1000000 := by obtain ⟨xa, xn, xc, e, hn, _⟩ := hq; injection e with _ e; omega
 have hqp : Lb.Ps w qa qn q := by
  obtain ⟨xa, xn, xc, e, hn, hp⟩ := hq
  injection e with e1 e2 e3
  subst e1 e2
  exact hp
 have hb0 := bal (Below.refl _ w) (.cells #[.int .i64 s1, .bool s2, .int .i64 s3] 35)
 have hx := BoxS.new w (s1, s2, s3)
 have his := fun W hW => Lb.is_any qa qn qc q W (by omega) hfit hW
 rw [hok] at his
 have hfind := fun W h1 h2 => find_any sb now base ao n cap rs qa qn qc q W (by omega) h1 hs hqn h2
 rw [hf] at hfind
 have hclone := fun W hW => clone_any (.slice qa qn qc) q W hW
 have hring := fun W => ring_any 100 now none 0 0 [] W (by omega) hnow (by omega) (Ms.nil _ _) (by simp)
 have c0 := h.c0
 have c1 := h.c1
 have HX : Hid _ := h
 have HQ : Hid (∀ W, Below w.heap.size w W → Lb.Ps W qa qn q) := fun W hW => hqp.later hW
 have HP : Hid (∀ W, Below w.heap.size w W → Pv W (.slice qa qn qc) q) := fun W hW => hq.later hW
 have HPL : Hid (posR q rs ≤ n) := by have := posR_le q rs; rw [h.len] at this; exact this
 have HBASE : Hid (base ≤ w.heap.size) := hbase
 clear hs hfit hok hf h hq hqp hbase
 generalize posR q rs = p at *
 go_enter Tryz.func13, Tryz.ntmps13
 go_wp2_with fail
 refine (his _ (HQ.out _ hb0)).mono ?_
 rintro e w1 ⟨rfl, hb1⟩
 have hB1 := Below.chain hb0 hb1
 go_wp2_with fail
 refine (hfind _ (HX.out.later hB1) (HQ.out _ hB1)).mono ?_
 rintro e w2 ⟨rfl, hb2⟩
 have hB2 := Below.chain hB1 hb2
 have hx2 := (hx.later hb1).later hb2
 have d1 := (hB2.cell (p := ⟨sb, 1, none⟩) (World.block_lt_of_cell? _ _ c1)).trans c1
 have HB2 : Hid _ := hB2
 have HX2 : Hid _ := hx2
 have HD0 : Hid _ := (hB2.cell (p := ⟨sb, 0, none⟩) (World.block_lt_of_cell? _ _ c0)).trans c0
 clear his hfind c0 c1 hb0 hb1 hb2 hB1 hx2 hx
 have hcl : ∀ W, Below w2.heap.size w2 W → Calls Tryz.prog 34 #[.slice qa qn qc] W fun e w' => ∃ xa xn xc, e = .returned (.slice xa xn xc) ∧ Pq w' (.slice xa xn xc) q ∧ w'.cell? ⟨sb, 1, none⟩ = some (.int .i64 now) ∧ Below w2.heap.size w2 w' ∧ Below W.heap.size W w' ∧ (∀ g, (Value.slice xa xn xc).ownBlock = some g → w2.heap.size ≤ g) := fun W hW => by
  refine (hclone W (HP.out W (Below.chain HB2.out hW))).mono ?_
  rintro e w' ⟨v', rfl, hpq, hb4, hng⟩
  obtain ⟨xa, xn, xc, rfl, hr⟩ := id hpq
  have hB := Below.chain hW hb4
  exact ⟨xa, xn, xc, rfl, hpq, (hB.cell (p := ⟨sb, 1, none⟩) (World.block_lt_of_cell? _ _ d1)).trans d1, hB, hb4, fun g hg => Nat.le_trans hW.size (hng g hg)⟩
 have hri : ∀ W, Below w2.heap.size w2 W → Calls Tryz.prog 35 #[.int .i64 100, .int .i64 now, .slice none 0 0] W fun e w' => e = .returned (.pointer (some ⟨W.heap.size, 0, none⟩)) ∧ St w' W.heap.size [] 100 now ∧ Below W.heap.size W w' := fun W hW => hring W
 clear hclone hring
 go_upto_region 6 with fail
 go_cut [9] from 31 to 38 (fun o wx => ∃ ob rb xa xn xc, o = .pointer (some ⟨ob, 0, none⟩) ∧ wx.cell? ⟨ob, 0, none⟩ = some (.slice xa xn xc) ∧ wx.cell? ⟨ob, 1, none⟩ = some (.pointer (some ⟨rb, 0, none⟩)) ∧ Pq wx (.slice xa xn xc) q ∧ St wx rb [] 100 now ∧ w2.heap.size ≤ rb ∧ (∀ g, (Value.slice xa xn xc).ownBlock = some g → g ≠ rb) ∧ ob ≠ rb ∧ w2.heap.size ≤ ob ∧ Below w2.heap.size w2 wx ∧ (∀ g, (Value.slice xa xn xc).ownBlock = some g → w2.heap.size ≤ g))
 case first =>
  have d0 : w2.drew.cell? ⟨sb, 1, none⟩ = some (.int .i64 now) := d1
  have hS0 : (fun W : World => W.cell? ⟨sb, 1, none⟩ = some (.int .i64 now)) w2.drew := d0
  have hbd := (Below.refl w2.heap.size w2).drew
  refine wp_region_noPanic ?_
  refine wp_region_held_drew (S := (fun W : World => W.cell? ⟨sb, 1, none⟩ = some (.int .i64 now))) (by kernel_rfl) hS0 (fun _ => ?_)
  refine take_at 0 (some 31) (.slice qa qn qc) rfl rfl (by kernel_rfl) (by kernel_rfl) (by kernel_rfl) (fun _ _ _ h => h) (by rfl) (fun W hSw => by have hSv : W.cell? ⟨sb, 1, none⟩ = some (.int .i64 now) := hSw; go_simp) hS0 ?_
  simp only [Act.put, List.setIfInBounds_toArray, List.set_cons_zero, List.set_cons_succ]
  refine take_at 2 (some 33) (.pointer (some ⟨sb, 0, none⟩)) rfl rfl (by kernel_rfl) (by kernel_rfl) (by kernel_rfl) (fun _ _ _ h => h) (by rfl) (fun W hSw => by have hSv : W.cell? ⟨sb, 1, none⟩ = some (.int .i64 now) := hSw; go_simp) hS0 ?_
  simp only [Act.put, List.setIfInBounds_toArray, List.set_cons_zero, List.set_cons_succ]
  refine take_at 3 (some 34) (.pointer (some ⟨sb, 0, none⟩)) rfl rfl (by kernel_rfl) (by kernel_rfl) (by kernel_rfl) (fun _ _ _ h => h) (by rfl) (fun W hSw => by have hSv : W.cell? ⟨sb, 1, none⟩ = some (.int .i64 now) := hSw; go_simp) hS0 ?_
  simp only [Act.put, List.setIfInBounds_toArray, List.set_cons_zero, List.set_cons_succ]
  refine take_at 4 (some 35) (.pointer (some ⟨sb, 1, none⟩)) rfl rfl (by kernel_rfl) (by kernel_rfl) (by kernel_rfl) (fun _ _ _ h => h) (by rfl) (fun W hSw => by have hSv : W.cell? ⟨sb, 1, none⟩ = some (.int .i64 now) := hSw; go_simp) hS0 ?_
  simp only [Act.put, List.setIfInBounds_toArray, List.set_cons_zero, List.set_cons_succ]
  refine take_at 5 (some 36) (.int .i64 now) rfl rfl (by kernel_rfl) (by kernel_rfl) (by kernel_rfl) (fun _ _ _ h => h) (by rfl) (fun W hSw => by have hSv : W.cell? ⟨sb, 1, none⟩ = some (.int .i64 now) := hSw; go_simp) hS0 ?_
  simp only [Act.put, List.setIfInBounds_toArray, List.set_cons_zero, List.set_cons_succ]
  refine wpAnyH_ready (rs := [1, 8]) (by kernel_rfl) (by simp) ?_
  refine AllReadyH.cons rfl (fun K hK => ?_) (AllReadyH.cons rfl (fun K hK => ?_) AllReadyH.nil)
  ·
   skip
   go_simp
   refine (hcl _ hbd).mono ?_
   rintro e w4 ⟨xa, xn, xc, rfl, hpq, dhS4, hb4, hbW, hng⟩
   try simp only [] at *
   have hS4 : (fun W : World => W.cell? ⟨sb, 1, none⟩ = some (.int .i64 now)) w4 := dhS4
   refine hK.out _ _ hS4 (fun _ => ?_)
   clear hK K
   have hlab : ∀ g, (Value.slice xa xn xc).ownBlock = some g → g < w4.heap.size := fun g hg => by obtain ⟨_, _, _, _, _, _, ht⟩ := hpq; exact (ht g hg).lt
   refine wpAnyH_ready (rs := [6, 8]) (by kernel_rfl) (by simp) ?_
   refine AllReadyH.cons rfl (fun K hK => ?_) (AllReadyH.cons rfl (fun K hK => ?_) AllReadyH.nil)
   ·
    skip
    go_simp
    refine (hri _ hb4).mono ?_
    rintro e w5 ⟨rfl, hst5, hb5⟩
    have hB5 := Below.chain hb4 hb5
    have dhS5 := (hB5.cell (p := ⟨sb, 1, none⟩) (World.block_lt_of_cell? _ _ d1)).trans d1
    have hS5 : (fun W : World => W.cell? ⟨sb, 1, none⟩ = some (.int .i64 now)) w5 := dhS5
    refine hK.out _ _ hS5 (fun _ => ?_)
    clear hK K
    refine take_at 7 (some 38) (.agg #[.slice xa xn xc, .pointer (some ⟨w4.heap.size, 0, none⟩)]) rfl rfl (by kernel_rfl) (by kernel_rfl) (by kernel_rfl) (fun _ _ _ h => h) (by rfl) (fun W hSw => by have hSv : W.cell? ⟨sb, 1, none⟩ = some (.int .i64 now) := hSw; go_simp) hS5 ?_
    simp only [Act.put, List.setIfInBounds_toArray, List.set_cons_zero, List.set_cons_succ]
    refine wpAnyH_ready (rs := [8]) (by kernel_rfl) (by simp) ?_
    refine AllReadyH.cons rfl (fun K hK => ?_) AllReadyH.nil
    go_simp
    have hbA := bal (Below.refl _ w5) (.cells #[.slice none 0 0, .pointer none] 74)
    have hB6 := Below.chain hB5 hbA
    have dhS6 := (hB6.cell (p := ⟨sb, 1, none⟩) (World.block_lt_of_cell? _ _ d1)).trans d1
    have u := new74 w5
    have hst6 := hst5.later hbA
    have hpq6 := (hpq.later hb5).later hbA
    have hobl : w2.heap.size ≤ w5.heap.size := hB5.size
    have hrbl : w2.heap.size ≤ w4.heap.size := hb4.size
    have hne : w5.heap.size ≠ w4.heap.size := by have := hst5.m.lt; omega
    have hlr : ∀ g, (Value.slice xa xn xc).ownBlock = some g → g ≠ w4.heap.size := fun g hg => by have := hlab g hg; omega
    generalize w5.heap.size = ob at *
    generalize w4.heap.size = rb at *
    generalize w5.alloc (.cells #[.slice none 0 0, .pointer none] 74) = w6 at *
    have hS6 : (fun W : World => W.cell? ⟨sb, 1, none⟩ = some (.int .i64 now)) w6 := dhS6
    refine hK.out _ _ hS6 (fun _ => ?_)
    clear hK K
    refine wpAnyH_ready (rs := [9]) (by kernel_rfl) (by simp) ?_
    refine AllReadyH.cons rfl (fun K hK => ?_) AllReadyH.nil
    have hseat := seat74 u hst6 hpq6 hB6 hobl hne
    obtain ⟨u0, u1, u2, u3, u4⟩ := u
    go_simp
    obtain ⟨z1, z2, z3, z4, z5⟩ := hseat
    have dhS9 := (z5.cell (p := ⟨sb, 1, none⟩) (World.block_lt_of_cell? _ _ d1)).trans d1
    refine hK.out _ _ (show (fun W : World => W.cell? ⟨sb, 1, none⟩ = some (.int .i64 now)) _ from dhS9) (fun _ => ?_)
    clear hK K
    refine wpAnyH_done (by kernel_rfl) ?_ _
    refine NoPanic.normal ?_
    go_wp2_with fail
    go_meet
    case rel => exact ⟨_, rb, xa, xn, xc, rfl, z1, z2, z3, z4, hrbl, hlr, hne, hobl, z5, hng⟩
   ·
    skip
    go_simp
    have hbA := bal (Below.refl _ w4) (.cells #[.slice none 0 0, .pointer none] 74)
    have hB5 := Below.chain hb4 hbA
    have dhS5 := (hB5.cell (p := ⟨sb, 1, none⟩) (World.block_lt_of_cell? _ _ d1)).trans d1
    have u0 := new74 w4
    have hpq5 := hpq.later hbA
    have hobl : w2.heap.size ≤ w4.heap.size := hb4.size
    have es : (w4.alloc (.cells #[.slice none 0 0, .pointer none] 74)).heap.size = w4.heap.size + 1 := by simp
    have hrbl : w2.heap.size ≤ w4.heap.size + 1 := by omega
    have hne : w4.heap.size ≠ w4.heap.size + 1 := by omega
    have hlr : ∀ g, (Value.slice xa xn xc).ownBlock = some g → g ≠ w4.heap.size + 1 := fun g hg => by have := hlab g hg; omega
    generalize w4.alloc (.cells #[.slice none 0 0, .pointer none] 74) = w5 at *
    have hS5 : (fun W : World => W.cell? ⟨sb, 1, none⟩ = some (.int .i64 now)) w5 := dhS5
    refine hK.out _ _ hS5 (fun _ => ?_)
    clear hK K
    refine wpAnyH_ready (rs := [6]) (by kernel_rfl) (by simp) ?_
    refine AllReadyH.cons rfl (fun K hK => ?_) AllReadyH.nil
    go_simp
    refine (hri _ hB5).mono ?_
    rintro e w6 ⟨rfl, hst6, hb6⟩
    have hB6 := Below.chain hB5 hb6
    have dhS6 := (hB6.cell (p := ⟨sb, 1, none⟩) (World.block_lt_of_cell? _ _ d1)).trans d1
    have u := u0.later hb6
    have hpq6 := hpq5.later hb6
    rw [es] at hst6
    rw [es]
    generalize w4.heap.size + 1 = rb at *
    generalize w4.heap.size = ob at *
    have hS6 : (fun W : World => W.cell? ⟨sb, 1, none⟩ = some (.int .i64 now)) w6 := dhS6
    refine hK.out _ _ hS6 (fun _ => ?_)
    clear hK K
    refine take_at 7 (some 38) (.agg #[.slice xa xn xc, .pointer (some ⟨rb, 0, none⟩)]) rfl rfl (by kernel_rfl) (by kernel_rfl) (by kernel_rfl) (fun _ _ _ h => h) (by rfl) (fun W hSw => by have hSv : W.cell? ⟨sb, 1, none⟩ = some (.int .i64 now) := hSw; go_simp) hS6 ?_
    simp only [Act.put, List.setIfInBounds_toArray, List.set_cons_zero, List.set_cons_succ]
    refine wpAnyH_ready (rs := [9]) (by kernel_rfl) (by simp) ?_
    refine AllReadyH.cons rfl (fun K hK => ?_) AllReadyH.nil
    have hseat := seat74 u hst6 hpq6 hB6 hobl hne
    obtain ⟨u0, u1, u2, u3, u4⟩ := u
    go_simp
    obtain ⟨z1, z2, z3, z4, z5⟩ := hseat
    have dhS9 := (z5.cell (p := ⟨sb, 1, none⟩) (World.block_lt_of_cell? _ _ d1)).trans d1
    refine hK.out _ _ (show (fun W : World => W.cell? ⟨sb, 1, none⟩ = some (.int .i64 now)) _ from dhS9) (fun _ => ?_)
    clear hK K
    refine wpAnyH_done (by kernel_rfl) ?_ _
    refine NoPanic.normal ?_
    go_wp2_with fail
    go_meet
    case rel => exact ⟨_, rb, xa, xn, xc, rfl, z1, z2, z3, z4, hrbl, hlr, hne, hobl, z5, hng⟩
  ·
   skip
   go_simp
   have hbA := (bal (Below.refl _ w2) (.cells #[.slice none 0 0, .pointer none] 74)).drew
   have dhS5 := (hbA.cell (p := ⟨sb, 1, none⟩) (World.block_lt_of_cell? _ _ d1)).trans d1
   have u0 : New74 (w2.alloc (.cells #[.slice none 0 0, .pointer none] 74)).drew w2.heap.size := (new74 w2).later (Below.refl _ _).drew
   generalize (w2.alloc (.cells #[.slice none 0 0, .pointer none] 74)).drew = w3 at *
   have hS5 : (fun W : World => W.cell? ⟨sb, 1, none⟩ = some (.int .i64 now)) w3 := dhS5
   refine hK.out _ _ hS5 (fun _ => ?_)
   clear hK K
   refine wpAnyH_ready (rs := [1]) (by kernel_rfl) (by simp) ?_
   refine AllReadyH.cons rfl (fun K hK => ?_) AllReadyH.nil
   go_simp
   refine (hcl _ hbA).mono ?_
   rintro e w4 ⟨xa, xn, xc, rfl, hpq, dhS4, hb4, hbW, hng⟩
   have u1 := u0.later hbW
   have hlab : ∀ g, (Value.slice xa xn xc).ownBlock = some g → g < w4.heap.size := fun g hg => by obtain ⟨_, _, _, _, _, _, ht⟩ := hpq; exact (ht g hg).lt
   have hS4 : (fun W : World => W.cell? ⟨sb, 1, none⟩ = some (.int .i64 now)) w4 := dhS4
   refine hK.out _ _ hS4 (fun _ => ?_)
   clear hK K
   refine wpAnyH_ready (rs := [6]) (by kernel_rfl) (by simp) ?_
   refine AllReadyH.cons rfl (fun K hK => ?_) AllReadyH.nil
   go_simp
   refine (hri _ hb4).mono ?_
   rintro e w6 ⟨rfl, hst6, hb6⟩
   have hB6 := Below.chain hb4 hb6
   have dhS6 := (hB6.cell (p := ⟨sb, 1, none⟩) (World.block_lt_of_cell? _ _ d1)).trans d1
   have u := u1.later hb6
   have hpq6 := hpq.later hb6
   have hobl : w2.heap.size ≤ w2.heap.size := Nat.le_refl _
   have hrbl : w2.heap.size ≤ w4.heap.size := hb4.size
   have hne : w2.heap.size ≠ w4.heap.size := fun e => by have := u1.t.lt; omega
   have hlr : ∀ g, (Value.slice xa xn xc).ownBlock = some g → g ≠ w4.heap.size := fun g hg => by have := hlab g hg; omega
   generalize w4.heap.size = rb at *
   have hS6 : (fun W : World => W.cell? ⟨sb, 1, none⟩ = some (.int .i64 now)) w6 := dhS6
   refine hK.out _ _ hS6 (fun _ => ?_)
   clear hK K
   refine take_at 7 (some 38) (.agg #[.slice xa xn xc, .pointer (some ⟨rb, 0, none⟩)]) rfl rfl (by kernel_rfl) (by kernel_rfl) (by kernel_rfl) (fun _ _ _ h => h) (by rfl) (fun W hSw => by have hSv : W.cell? ⟨sb, 1, none⟩ = some (.int .i64 now) := hSw; go_simp) hS6 ?_
   simp only [Act.put, List.setIfInBounds_toArray, List.set_cons_zero, List.set_cons_succ]
   refine wpAnyH_ready (rs := [9]) (by kernel_rfl) (by simp) ?_
   refine AllReadyH.cons rfl (fun K hK => ?_) AllReadyH.nil
   have hseat := seat74 u hst6 hpq6 hB6 hobl hne
   obtain ⟨u0, u1, u2, u3, u4⟩ := u
   go_simp
   obtain ⟨z1, z2, z3, z4, z5⟩ := hseat
   have dhS9 := (z5.cell (p := ⟨sb, 1, none⟩) (World.block_lt_of_cell? _ _ d1)).trans d1
   refine hK.out _ _ (show (fun W : World => W.cell? ⟨sb, 1, none⟩ = some (.int .i64 now)) _ from dhS9) (fun _ => ?_)
   clear hK K
   refine wpAnyH_done (by kernel_rfl) ?_ _
   refine NoPanic.normal ?_
   go_wp2_with fail
   go_meet
   case rel => exact ⟨_, rb, xa, xn, xc, rfl, z1, z2, z3, z4, hrbl, hlr, hne, hobl, z5, hng⟩
 case rest =>
  obtain ⟨ob, rb, xa, xn, xc, rfl, z1, z2, z3, z4, z5, z6, z7, z8, z9, z10⟩ := hcut
  have hadd := fun (W : World) hW => add_st rb [] 100 now (s1, s2, s3) W hW hr
  obtain ⟨x0, x1, x2, _, _, _⟩ := HX2.out.later z9
  have HZ9 : Hid _ := z9
  have HZ3 : Hid _ := z3
  have HZ6 : Hid _ := z6
  have HZL : Hid _ := z10
  have HE : Hid (adL [] 100 now (s1, s2, s3) = if adE [] 100 now s1 = 0 then [nrm (s1, s2, s3)] else []) := by show _ = _; unfold adL; split <;> rfl
  clear z3 z6 z10 hcl hri d1
  generalize adL [] 100 now (s1, s2, s3) = la at *
  generalize hEA : adE [] 100 now s1 = ea at *
  have HEA : Hid _ := hEA
  clear hEA
  go_wp2_with fail
  refine (hadd _ z4).mono ?_
  rintro e w7 ⟨rfl, hs7, hg7⟩
  clear hadd
  have hB7 : Below w2.heap.size w2 w7 := grown_above HZ9.out hg7 HZ9.out.size z5
  have hB7w := Below.chain HB2.out hB7
  by_cases hea : ea = 0
  ·
   subst hea
   have hm7 := HX.out.later hB7w
   have k0 := hm7.c0
   by_cases h16 : 16 ≤ n
   ·
    have hd : decide ((16 : Int) ≤ (n : Int)) = true := decide_eq_true (by omega)
    have hd2 : decide ((n : Int) ≥ 16) = true := decide_eq_true (by omega)
    go_wp2
    go_ret
    exact Or.inr (Or.inl ⟨HEA.out, h16, rfl, hB7w⟩)
   ·
    have hd : decide ((16 : Int) ≤ (n : Int)) = false := decide_eq_false (by omega)
    have hd2 : decide ((n : Int) ≥ 16) = false := decide_eq_false (by omega)
    have o0 := grown_cell hg7 z1 (fun e => z7 (by injection e))
    have o1 := grown_cell hg7 z2 (fun e => z7 (by injection e))
    have k0' : ∀ o, (w7.alloc o).cell? ⟨sb, 0, none⟩ = some (.slice ao n cap) := fun o => ((bal (Below.refl _ w7) o).cell (p := ⟨sb, 0, none⟩) (World.block_lt_of_cell? _ _ k0)).trans k0
    have hpq7 := Pq.keptN (v := .slice xa xn xc) (a := q) HZ3.out hg7 (fun g hg e => HZ6.out g hg (by injection e))
    have hla : la = [nrm (s1, s2, s3)] := by have := HE.out; rw [if_pos rfl] at this; exact this
    have hins : ∀ W, NewAt w7 W w7.heap.size (.slice xa xn xc) rb → Calls Tryz.prog 36 #[.slice ao n cap, .int .i64 p, .slice (some ⟨w7.heap.size, 0, none⟩) 1 1] W fun e w' => ∃ ao' cap', e = .returned (.slice ao' (n + 1) cap') ∧ w'.cell? ⟨sb, 0, none⟩ = some (.slice ao n cap) ∧ w'.frozen? ⟨sb, 0, none⟩ = false ∧
      Hid (Sx (w'.setCell ⟨sb, 0, none⟩ (.slice ao' (n + 1) cap')) sb now base ao' (n + 1) cap' (rs.take p ++ ⟨.slice xa xn xc, rb, q, la, now⟩ :: rs.drop p) ∧ Gf w7 (w'.setCell ⟨sb, 0, none⟩ (.slice ao' (n + 1) cap')) (Ft sb (.slice ao n cap) rs) ∧
      ((Value.slice ao' (n + 1) cap').ownBlock = (Value.slice ao n cap).ownBlock ∨ ∀ k, (Value.slice ao' (n + 1) cap').ownBlock = some k → w7.heap.size ≤ k)) := by
     intro W hW
     have hm := hm7.later hW.b
     have hlt7 : ∀ g, Ty w7 g 74 → w7.heap.size ≠ g := fun g hg e => by have := hg.lt; omega
     have hold : ∀ x ∈ rs, x.ring < w.heap.size := fun x hx => (HX.out.s x hx).m.lt
     have hrbw : w.heap.size ≤ rb := Nat.le_trans HB2.out.size z5
     refine (ins_any base ao n cap p rs w7.heap.size ⟨.slice xa xn xc, rb, q, la, now⟩ W hn HPL.out (Nat.le_trans HBASE.out (Nat.le_trans hB7w.size hW.b.size)) hm.p hW.c0 hW.c1 rfl (fun x hx => by obtain ⟨_, _, _, e, _⟩ := HX.out.q x hx; rw [e]; rfl) (fun g hg => hlt7 g (row_ty hm7.p hg)) 74 2 hW.s hW.f0 hW.f2).mono ?_
     rintro e w' ⟨v', rfl, hov, hgv, hwv⟩
     have hlv : (rs.take p ++ (⟨.slice xa xn xc, rb, q, la, now⟩ : SRec) :: rs.drop p).length = n + 1 := by rw [List.length_append, List.length_cons, List.length_take, List.length_drop, HX.out.len]; have := HPL.out; omega
     obtain ⟨ao', cap', rfl⟩ : ∃ ao' cap', v' = .slice ao' (n + 1) cap' := by
      rcases hov.2 with ⟨_, h0⟩ | ⟨g, c, cur, e, _⟩
      ·
       rw [hlv] at h0; omega
      ·
       rw [hlv] at e; exact ⟨_, _, e⟩
     have hsz := hW.b.size
     obtain ⟨g1, g2, g3, g4⟩ := sx_insert (w7 := W) (r := ⟨.slice xa xn xc, rb, q, la, now⟩) hm hov hgv hwv (hpq7.later hW.b) (hs7.later hW.b) (fun e => by have h1 := HX.out.t.lt; have e2 : rb = sb := e; omega) (fun g hg e => by have h1 := (row_ty HX.out.p hg).lt; have e2 : g = rb := e; omega) (fun x hx g hg e => by obtain ⟨_, _, _, _, _, _, ht⟩ := HX.out.q x hx; have h1 := (ht g hg).lt; have e2 : g = rb := e; omega) (fun g hg => HZ6.out g hg) (fun x hx e => by have := hold x hx; have e2 : x.ring = rb := e; omega) (fun x hx g hg e => by have h1 := hold x hx; have h2 := HZL.out g hg; have h3 := HB2.out.size; omega)
     exact ⟨ao', cap', rfl, g1, g2, g3, (Gf.below hW.b).trans g4, hwv.imp id (fun h k hk => Nat.le_trans hsz (h k hk))⟩
    go_wp2_with fail
    go_region_with (go_at_call 36; refine (hins _ (by first | exact newAt w7 _ _ | exact (newAt w7 _ _).drew | exact newAtD w7 _ _)).mono ?_; rintro e w8 ⟨ao', cap', rfl, q0, q1, HQ8⟩)
    all_goals
     go_wp2
     go_ret
     obtain ⟨r1, r2, r3⟩ := HQ8.out
     rw [hla] at r1
     exact Or.inr (Or.inr ⟨HEA.out, by omega, rfl, _, _, _, _, r1, (Gf.below hB7w).trans (r2), Nat.le_trans HB2.out.size z5, r3.imp id (fun h k hk => Nat.le_trans hB7w.size (h k hk))⟩)
  ·
   have hd : (ea != 0) = true := by rw [bne_iff_ne]; exact hea
   go_wp2
   go_ret
   exact Or.inl ⟨by rw [HEA.out]; exact hea, by rw [HEA.out]; rfl, hB7w⟩
end Go.Proofs.YtjgckfcocmhnhaaGreatDoor.Sr
