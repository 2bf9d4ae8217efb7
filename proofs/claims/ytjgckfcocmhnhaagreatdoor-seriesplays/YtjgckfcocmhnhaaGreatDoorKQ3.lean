/- Texts that the others lean on. -/
import Derived.Test.YtjgckfcocmhnhaaGreatDoorKQAlike
namespace Go.Proofs.YtjgckfcocmhnhaaGreatDoor.Sp
open Go.RowKit
theorem qs_slice {w : World} {base : Nat} {v : Value} {L : List (List Lb.Pr)} (h : Sr.Qs w base v L) : ∃ ao cap, v = .slice ao L.length cap ∧ ∀ j, j < L.length → ∃ g u, ao = some ⟨g, 0, none⟩ ∧ w.cell? ⟨g, j, none⟩ = some u ∧ Sr.Pq w u (L.getD j []) := by
 obtain ⟨vs, ho, hj⟩ := h
 have hl := ho.1
 rcases ho.2 with ⟨rfl, h0⟩ | ⟨g, cap, cur, rfl, hb, hg, hn, _, hs, ht⟩
 ·
  exact ⟨none, 0, by rw [h0], fun j hj => by omega⟩
 ·
  refine ⟨_, cap, rfl, fun j hjl => ?_⟩
  obtain ⟨u, hu, hp⟩ := hj j hjl
  refine ⟨g, u, rfl, ?_, hp⟩
  rw [← hu, cell_of_row _ _ _ _ _ _ hg, ← ht, List.getElem?_take_of_lt (by omega)]
  exact (Array.getElem?_toList).symm
/-- Where Find finds a set. -/
def FDp (w : World) (v : Value) (l : List Smp) : Prop := (v = .pointer none ∧ l = []) ∨ Hy.At_ w v l
theorem FDp.later {w w' : World} {v : Value} {l : List Smp} (h : FDp w v l) (hb : Below w.heap.size w w') : FDp w' v l := by
 rcases h with h | ⟨p, lv, ao, n, cap, e, hs, hm, hn⟩
 ·
  exact Or.inl h
 ·
  exact Or.inr ⟨p, lv, ao, n, cap, e, hs.later hb, hm.later hb, hn⟩
theorem fd_at {w : World} {v : Value} {l : List Smp} (h : FDp w v l) (t : Int) (ht : 0 ≤ t ∧ t ≤ 1000000) : Calls Tryz.prog 46 #[v, .int .i64 t] w fun e w' => e = .returned (Hy.atT l t) ∧ Below w.heap.size w w' := by
 rcases h with ⟨rfl, rfl⟩ | ⟨p, lv, ao, n, cap, rfl, hs, hm, hn⟩
 ·
  exact Hy.at_nil t w (by omega)
 ·
  exact Hy.at_any p lv ao n cap l t w hs hm hn.2 (by omega)
theorem fd_bet {w : World} {v : Value} {l : List Smp} (h : FDp w v l) (f t : Int) : Calls Tryz.prog 47 #[v, .int .i64 f, .int .i64 t] w fun e w' => (∃ ao cap, e = .returned (.slice ao (Hy.bet f t l).length cap) ∧ Hy.Ms w' ao (Hy.bet f t l).length (Hy.bet f t l)) ∧ Below w.heap.size w w' := by
 rcases h with ⟨rfl, rfl⟩ | ⟨p, lv, ao, n, cap, rfl, hs, hm, hn⟩
 ·
  refine (Hy.between_nil f t w).mono ?_
  rintro e w' ⟨rfl, hb⟩
  exact ⟨⟨none, 0, rfl, rfl, fun h => by simp [Hy.bet] at h⟩, hb⟩
 ·
  refine (Hy.between_any p lv ao n cap l f t w hs hm hn.2).mono ?_
  rintro e w' ⟨u, rfl, ho, hb⟩
  obtain ⟨a, c, rfl, hms⟩ := ho.slice
  exact ⟨⟨a, c, rfl, hms⟩, hb⟩
theorem alike_any {w0 w : World} {sb hb : Nat} {now : Int} {H : HL} (hJ : JJ w0 w sb now (vw now H) hb now H) (ph : PH now H) (qa : Option Addr) (qn qc : Nat) (q : List Lb.Pr) (hq : Sr.Pv w (.slice qa qn qc) q)
  (mo : Option Addr) (mn mc : Nat) (m : List Lb.Mat) (hmn : mn ≤ 1000000) (hm : Lb.Ms w mo mn m) (hg : Lb.FitM m) (d : Int) :
  Calls Tryz.prog 15 #[.pointer (some ⟨sb, 0, none⟩), .pointer (some ⟨hb, 0, none⟩), .slice qa qn qc, .slice mo mn mc, .int .i64 d] w fun e w' => e = .returned (.bool true) ∧ Below w.heap.size w w' := by
 obtain ⟨F, G, h1, h2, _, _, _, hB⟩ := hJ
 have hnow : 0 ≤ now ∧ now ≤ 1000000 := by
  obtain ⟨base, ao, n, cap, rs, _, _, _, _, _, _, _, k8, k9⟩ := h1
  exact ⟨k8, k9⟩
 have hc0 : w.cell? ⟨hb, 0, none⟩ = some (.int .i64 now) := by
  obtain ⟨ao, n, cap, rs, hx, _⟩ := h2
  exact hx.c0
 obtain ⟨xa, xn, xc, e, hqn, hqp⟩ := id hq
 injection e with e1 e2 e3
 subst e1 e2 e3
 obtain ⟨s1, s2⟩ := samp_ok ph q
 have hk1 := Sr.wd_range d
 have hk : max 1 (min d 100) = Sr.wd d := by unfold Sr.wd; omega
 have hwin := win_eq ph q hk1.2
 have h10 := win_eq (k := 10) ph q (by omega)
 have hle := vw_len ph
 have hse := sets_eq ph m
 obtain ⟨k, hkd⟩ : ∃ k, Sr.wd d = k := ⟨_, rfl⟩
 rw [hkd] at hk1 hk hwin
 obtain ⟨A, hA⟩ : ∃ A, Hy.bet (now - k) now (samp q H) = A := ⟨_, rfl⟩
 obtain ⟨B, hBe⟩ : ∃ B, Hy.bet (now - 10) now (samp q H) = B := ⟨_, rfl⟩
 have hAm : ∀ s ∈ A, now - k < s.1 ∧ s ∈ samp q H := fun s hs => by
  rw [← hA] at hs
  obtain ⟨g1, g2⟩ := List.mem_filter.1 hs
  rw [Bool.and_eq_true, decide_eq_true_eq] at g2
  exact ⟨g2.1, g1⟩
 have hAw : Rn.Wf A k now := ⟨hk1, hnow, by rw [← hA]; exact s1.sublist List.filter_sublist, fun s hs => by have := hAm s hs; have := s2 s this.2; omega, fun s hs => (s2 s (hAm s hs).2).2.2⟩
 have hA100 := hAw.le
 have hAn : ∀ s ∈ A, Rn.nrm s = s := fun s hs => (s2 s (hAm s hs).2).2.1
 rw [hA] at hwin
 rw [hBe] at h10
 have hkr : R64 k := ⟨by omega, by omega⟩
 obtain ⟨S, hS⟩ : ∃ S, Sr.setsL m (vw now H) = S := ⟨_, rfl⟩
 rw [hS] at hse
 have hSn : S.length ≤ 1000000 := by
  have hl : (vw now H).length ≤ 16 := by
   obtain ⟨base, ao, n, cap, rs, hx, _, _, _, _, h16, e, _⟩ := h1
   rw [e, List.length_map, hx.len]
   exact h16
  rw [← hS]
  unfold Sr.setsL
  rw [List.length_map]
  exact Nat.le_trans (List.length_filter_le _ _) (by omega)
 refine alike_walk (fun W u j => Hy.Pv W u (S.getD j [])) (fun W v => FDp W v (samp q H)) (fun W a => Hy.Ms W a A.length A) (teT A k) sb hb now k (Hy.liveL now H) S.length A.length (.slice qa qn qc) (.slice mo mn mc) d (Rn.lst B).1 (Rn.lst B).2.1 (Rn.lst B).2.2 (!B.isEmpty) w hnow hk1 hSn hk hc0
  (fun W W' u j h hb => h.later hb) (fun W W' v h hb => h.later hb) (fun W W' a h hb => h.later hb) ?c17 ?c19 ?c41 ?c26 ?c44 ?c45 ?c38 ?c25 ?c46 ?c47 ?c20 ?c48 ?c21 ?c50
 case c17 => exact fun W hW => Sr.now_so sb now F _ W (h1.later hW)
 case c19 =>
  intro W hW
  have := Sr.len_so sb now F _ W (h1.later hW)
  rw [hle] at this
  exact this
 case c41 => exact fun W hW => Hy.live_hist hb now _ G H W (h2.later hW (fun _ e => e))
 case c26 =>
  intro W hW
  refine (Sr.sets_so sb now F _ mo mn mc m W (h1.later hW) hmn (hm.later hW) hg).mono ?_
  rintro e w' ⟨u, rfl, hqs, hb1⟩
  rw [hS] at hqs
  obtain ⟨ao, cap, rfl, hc⟩ := qs_slice hqs
  refine ⟨⟨ao, cap, rfl, fun j hj => ?_⟩, hb1⟩
  obtain ⟨g, u, e1, e2, e3⟩ := hc j hj
  exact ⟨g, u, e1, e2, e3.pv⟩
 case c44 =>
  intro W hW
  refine (sets_hist hb now _ G H mo mn mc m W (h2.later hW (fun _ e => e)) ph.is hmn (hm.later hW) hg).mono ?_
  rintro e w' ⟨v, rfl, hb1, Z, ho, hz, hzz⟩
  rw [hz] at hse
  have hSl : S.length = Z.length := by rw [hse]; simp
  obtain ⟨a, c, rfl, hpp⟩ := ho.slice
  have hzl : (Z.map (·.1)).length = S.length := by rw [List.length_map, hSl]
  rw [hzl] at hpp ⊢
  refine ⟨⟨a, c, rfl, fun j hj => ?_⟩, hb1⟩
  obtain ⟨b, off, e1, hc⟩ := hpp.2 (by omega)
  have hjz : j < Z.length := by omega
  obtain ⟨hr, hp⟩ := hzz _ (List.getElem_mem hjz)
  have e2 : (Z.map (·.1)).getD j Hy.r0 = Z[j].1 := by rw [List.getD_eq_getElem?_getD, List.getElem?_map, List.getElem?_eq_getElem hjz]; rfl
  have e3 : S.getD j [] = Z[j].2.1 := by rw [hse, List.getD_eq_getElem?_getD, List.getElem?_map, List.getElem?_map, List.getElem?_eq_getElem hjz]; rfl
  have hcj := hc j hj
  rw [e2] at hcj
  refine ⟨b, off, Z[j].1.1, Z[j].1.2.1, e1, hcj, hr.s.c0, ?_⟩
  show Hy.Pv w' Z[j].1.2.1 (S.getD j [])
  rw [e3]
  obtain ⟨ya, yn, yc, f1, f2, f3, _⟩ := hp
  exact ⟨ya, yn, yc, f1, f2, f3⟩
 case c45 =>
  rintro W u v j _ _ ⟨ya, yn, yc, rfl, y2, y3⟩ ⟨za, zn, zc, rfl, z2, z3⟩
  have := Lb.refSame_any ya yn yc _ za zn zc _ W (by omega) (by omega) y3 z3
  rw [cmp_self] at this
  exact this
 case c38 =>
  intro W hW
  refine (Hy.find_hist hb now _ G H qa qn qc q W (h2.later hW (fun _ e => e)) (hq.later hW)).mono ?_
  rintro e w' ⟨v, rfl, hb1, hm⟩
  refine ⟨⟨v, rfl, ?_⟩, hb1⟩
  unfold samp
  cases hf : Hy.findL q H with
  | none =>
   rw [hf] at hm
   exact Or.inl ⟨hm, rfl⟩
  | some j =>
   rw [hf] at hm
   exact Or.inr hm.2
 case c25 =>
  intro W hW
  have := Sr.last_so sb now F _ qa qn qc q W (h1.later hW) hqn (hqp.later hW)
  rw [h10] at this
  exact this
 case c46 =>
  intro W v hv
  have := fd_at hv now hnow
  unfold Hy.atT at this
  rw [hBe] at this
  exact this
 case c47 =>
  intro W v hv
  have := fd_bet hv (now - k) now
  rw [hA] at this
  exact this
 case c20 =>
  intro W hW
  refine (Sr.window_so sb now F _ qa qn qc q d W (h1.later hW) hqn (hqp.later hW)).mono ?_
  rintro e w' ⟨u, rfl, ho, hb1⟩
  rw [hkd, hwin] at ho
  obtain ⟨a, c, rfl, hms⟩ := ho.slice
  exact ⟨⟨a, c, rfl, hms⟩, hb1⟩
 case c48 => exact fun W a b ca cb ha hb => Hy.same_any a b A.length ca cb A W (by omega) ha hb
 case c21 =>
  intro W i hW
  exact Sr.over_so (nmV i) (teT A k i).1 (teT A k i).2.1 (teT A k i).2.2 sb now F _ qa qn qc q d W (h1.later hW) hqn (hqp.later hW) fun rb W' hst => by
   rw [hkd] at hst ⊢
   rw [hwin] at hst
   exact tell_i rb A k now i W' hst hAn
 case c50 => exact fun W i a ca hma => over_i a A.length ca A k i W hA100 hma hAw.rg hAn hkr
end Go.Proofs.YtjgckfcocmhnhaaGreatDoor.Sp
namespace Go.Proofs.YtjgckfcocmhnhaaGreatDoor.Sp
open Go.RowKit
/-- So many series at most, so many samples each. -/
def FitH (i : Nat) (H : HL) : Prop := H.length ≤ i ∧ ∀ x ∈ H, x.2.length ≤ i
theorem FitH.next {i : Nat} {H : HL} (h : FitH i H) : FitH (i + 1) H := ⟨by have := h.1; omega, fun x hx => by have := h.2 x hx; omega⟩
theorem FitH.add {i : Nat} {H : HL} (h : FitH i H) (now : Int) (q : List Lb.Pr) (s : Smp) : FitH (i + 1) (Hy.addL now H q s) := by
 unfold Hy.addL
 split
 ·
  exact h.next
 ·
  split
  ·
   rename_i j hf
   obtain ⟨hj, _, ed⟩ := find_one hf
   refine ⟨by rw [List.length_set]; have := h.1; omega, fun x hx => ?_⟩
   rcases List.mem_or_eq_of_mem_set hx with hx | rfl
   ·
    have := h.2 x hx; omega
   ·
    have := h.2 _ (List.getElem_mem hj)
    rw [ed]
    simp only [List.length_append, List.length_cons, List.length_nil]
    omega
  ·
   have hl := h.1
   refine ⟨?_, fun x hx => ?_⟩
   ·
    rw [List.length_append, List.length_cons, List.length_take, List.length_drop]; omega
   ·
    rcases List.mem_append.1 hx with hx | hx
    ·
     have := h.2 x (List.mem_of_mem_take hx); omega
    ·
     rcases List.mem_cons.1 hx with rfl | hx
     ·
      simp
     ·
      have := h.2 x (List.mem_of_mem_drop hx); omega
theorem onw_ge (now t : Int) : now ≤ Rn.onw now t := by unfold Rn.onw; omega
theorem step_sadv {w0 w : World} {sb hb : Nat} {now : Int} {H : HL} {xb : Nat} (h : JX w0 w sb now (vw now H) hb now H xb) (ph : PH now H) (t : Int) :
  Calls Tryz.prog 11 #[.pointer (some ⟨sb, 0, none⟩), .int .i64 t] w fun e w' => e = .returned (.tuple #[]) ∧ JX w0 w' sb (Rn.onw now t) (vw (Rn.onw now t) H) hb now H xb ∧ w'.heap[xb]? = w.heap[xb]? := by
 have := jx_sadv h t
 rw [show Sr.advL (Rn.onw now t) (vw now H) = vw (Rn.onw now t) H from vw_vw ph (onw_ge now t)] at this
 exact this
theorem step_hadv {w0 w : World} {sb hb : Nat} {now n1 : Int} {L : Sr.HL} {H : HL} {xb : Nat} (h : JX w0 w sb n1 L hb now H xb) (t : Int) :
  Calls Tryz.prog 12 #[.pointer (some ⟨hb, 0, none⟩), .int .i64 t] w fun e w' => e = .returned (.tuple #[]) ∧ JX w0 w' sb n1 L hb (Rn.onw now t) H xb ∧ w'.heap[xb]? = w.heap[xb]? := jx_hadv h t
theorem step_sadd {w0 w : World} {sb hb : Nat} {now : Int} {H : HL} {xb : Nat} (h : JX w0 w sb now (vw now H) hb now H xb) (ph : PH now H) (qa : Option Addr) (qn qc : Nat) (q : List Lb.Pr) (hq : Sr.Pv w0 (.slice qa qn qc) q) (hfit : Lb.Fit q) (t : Int) (xo : Bool) (xn : Int) (hr : R64 xn) {ev : Int} (hev : Hy.addE now H q t = ev) {H' : HL} (hH : Hy.addL now H q (t, xo, xn) = H') :
  Calls Tryz.prog 13 #[.pointer (some ⟨sb, 0, none⟩), .slice qa qn qc, .agg #[.int .i64 t, .bool xo, .int .i64 xn]] w fun e w' => e = .returned (.int .i64 ev) ∧ JX w0 w' sb now (vw now H') hb now H xb ∧ w'.heap[xb]? = w.heap[xb]? := by
 have := jx_sadd h qa qn qc q (hq.later h.jj.b) hfit (t, xo, xn) hr
 rw [← vw_add ph q (t, xo, xn) hr, hH, addE_eq ph q, hev] at this
 exact this
theorem step_hadd {w0 w : World} {sb hb : Nat} {now : Int} {L : Sr.HL} {H : HL} {xb i : Nat} (h : JX w0 w sb now L hb now H xb) (hi : FitH i H) (hi2 : i < 1000000) (qa : Option Addr) (qn qc : Nat) (q : List Lb.Pr) (hq : Sr.Pv w0 (.slice qa qn qc) q) (hfit : Lb.Fit q) (t : Int) (xo : Bool) (xn : Int) (hr : R64 xn) {ev : Int} (hev : Hy.addE now H q t = ev) {H' : HL} (hH : Hy.addL now H q (t, xo, xn) = H') :
  Calls Tryz.prog 14 #[.pointer (some ⟨hb, 0, none⟩), .slice qa qn qc, .agg #[.int .i64 t, .bool xo, .int .i64 xn]] w fun e w' => e = .returned (.int .i64 ev) ∧ JX w0 w' sb now L hb now H' xb ∧ w'.heap[xb]? = w.heap[xb]? := by
 have := jx_hadd h qa qn qc q hq hfit t xo xn hr (by have := hi.1; omega) (fun j hj => by
  have := hi.2 _ (List.getElem_mem hj)
  rw [List.getD_eq_getElem?_getD, List.getElem?_eq_getElem hj, Option.getD_some]
  omega)
 rw [hH, hev] at this
 exact this
/-- Both, new. -/
theorem jj_new {w0 w : World} {sb : Nat} (hs : Sr.So w sb 0 (fun k => k = sb) []) (hB : Below w0.heap.size w0 w) (hsb : w0.heap.size ≤ sb) : JJ w0 (w.alloc (.cells #[.int .i64 0, .slice none 0 0] 30)) sb 0 (vw 0 []) w.heap.size 0 [] := by
 have hw := bal (Below.refl w.heap.size w) (.cells #[.int .i64 0, .slice none 0 0] 30)
 have hlt : sb < w.heap.size := by
  obtain ⟨base, ao, n, cap, rs, hx, _⟩ := hs
  exact hx.t.lt
 have hf : Hy.Hf (w.alloc (.cells #[.int .i64 0, .slice none 0 0] 30)) w.heap.size 0 w0.heap.size (fun k => k = w.heap.size) [] := by
  refine ⟨none, 0, 0, [], ⟨by simp [go_sem], by simp [go_sem], by simp [go_sem], by simp [go_sem], Hy.Ty.new _ _ _, World.ownsRow_nil _ _ _ _, by simp, List.Pairwise.nil, by omega, by omega⟩, rfl, ?_, by simp⟩
  rintro k (e | e | ⟨r, hr, _⟩)
  ·
   exact e
  ·
   simp [Value.ownBlock] at e
  ·
   cases hr
 exact JJ.mk (hs.later hw) hf (fun k e e2 => by omega) (fun k e => by omega) (fun k e => by have := hB.size; omega) (Below.chain hB hw)
theorem JJ.so {w0 w : World} {sb : Nat} {t1 : Int} {L : Sr.HL} {hb : Nat} {t2 : Int} {H : Hy.HL} (h : JJ w0 w sb t1 L hb t2 H) : ∃ F, Sr.So w sb t1 F L := by
 obtain ⟨F, G, h1, _⟩ := h
 exact ⟨F, h1⟩
/-- What is there has samples as they are kept. -/
theorem vw_nr {now : Int} {H : HL} (ph : PH now H) : ∀ x ∈ vw now H, ∀ s ∈ x.2, Rn.nrm s = s := fun x hx s hs => by
 obtain ⟨z, hz, rfl, _⟩ := (mem_adv ph.so x).1 hx
 exact (ph.nr z hz s (List.mem_filter.1 hs).1).1
end Go.Proofs.YtjgckfcocmhnhaaGreatDoor.Sp
