/- Texts that the others lean on. -/
import Derived.Test.YtjgckfcocmhnhaaGreatDoorKP
namespace Go.Proofs.YtjgckfcocmhnhaaGreatDoor.Hy
open Go.RowKit
theorem Gf.mono {w w' : World} {F F' : Nat → Prop} (h : Gf w w' F) (hF : ∀ k, F k → F' k) : Gf w w' F' := ⟨h.os, h.tape, h.output, h.size, fun k hk hf => h.block k hk (fun e => hf (hF k e))⟩
theorem getD_set' {α : Type} (A : List α) (j i : Nat) (x d : α) (hj : j < A.length) : (A.set j x).getD i d = if i = j then x else A.getD i d := by
 rw [List.getD_eq_getElem?_getD, List.getD_eq_getElem?_getD, List.getElem?_set]
 by_cases e : j = i
 ·
  rw [if_pos e, if_pos hj, if_pos e.symm]; rfl
 ·
  rw [if_neg e, if_neg (fun h => e h.symm)]
theorem getD_ins {α : Type} (A : List α) (k i : Nat) (x d : α) (hk : k ≤ A.length) : (A.take k ++ x :: A.drop k).getD i d = if i < k then A.getD i d else if i = k then x else A.getD (i - 1) d := by
 have hl : (A.take k).length = k := by rw [List.length_take]; omega
 rw [List.getD_eq_getElem?_getD, List.getD_eq_getElem?_getD, List.getD_eq_getElem?_getD]
 by_cases e : i < k
 ·
  rw [if_pos e, List.getElem?_append_left (by omega), List.getElem?_take_of_lt e]
 ·
  rw [if_neg e, List.getElem?_append_right (by omega), hl]
  by_cases e2 : i = k
  ·
   rw [if_pos e2, e2, Nat.sub_self]; rfl
  ·
   obtain ⟨p, hp⟩ : ∃ p, i - k = p + 1 := ⟨i - k - 1, by omega⟩
   rw [if_neg e2, hp, List.getElem?_cons_succ, List.getElem?_drop]
   congr 2
   omega
set_option maxHeartbeats 4000000 in
theorem add_yes (hb : Nat) (now : Int) (base : Nat) (F : Nat → Prop) (L : HL) (qa : Option Addr) (qn qc : Nat) (q : List Lb.Pr) (t : Int) (xo : Bool) (xn : Int) (cs : List Value) (w : World) (h : Hf w hb now base F L) (hq : Pv w (.slice qa qn qc) q) (hqF : 0 < qn → ∀ g, (Value.slice qa qn qc).ownBlock = some g → ¬ F g) (hfit : Lb.Fit q) (hz : addE now L q t = 0)
  (hxn : R64 xn) (hL : L.length + 1 ≤ 1000000) (hS : ∀ j, j < L.length → (L.getD j d0).2.length + 1 ≤ 1000000) (hbase : base ≤ w.heap.size)
  (hap : ∀ W, w.heap.size ≤ W.heap.size → Pv W (.slice qa qn qc) q → ∃ lv W', (Builtin.append_ #[31, 31] 31 #[.slice none 0 0, .slice qa qn qc]).run Tryz.prog W = .ok lv W' ∧ W'.ownsRow w.heap.size 45 2 lv qn (cs) ∧ Below W.heap.size W W')
  (hpq : ∀ W lv, W.ownsRow w.heap.size 45 2 lv qn (cs) → Pq W lv q) :
  Calls Tryz.prog 14 #[.pointer (some ⟨hb, 0, none⟩), .slice qa qn qc, sv (t, xo, xn)] w fun e w' => e = .returned (.int .i64 0) ∧ Hf w' hb now base (fun k => F k ∨ w.heap.size ≤ k) (addL now L q (t, xo, xn)) ∧ Gf w w' F := by
 obtain ⟨ao, n, cap, rs, hx, hl, hFt, hj⟩ := h
 have hq0 := hq
 obtain ⟨xa, xm, xc, e, hm, hp⟩ := hq
 injection e with e1 e2 e3
 subst e1 e2 e3
 have hm' := hx.hm
 have hn : rs.length = n := hm'.p.1
 have his : ∀ W, Below w.heap.size w W → Calls Tryz.prog 37 #[.slice qa qn qc] W fun e w' => e = .returned (.bool (Lb.fIs q)) ∧ Below W.heap.size W w' := fun W hW => Lb.refIs_any qa qn qc q W (by omega) hfit (hp.later hW)
 have hsame : ∀ j, j < n → ∀ W, Below w.heap.size w W → Calls Tryz.prog 45 #[(rs.getD j r0).2.1, .slice qa qn qc] W fun e w' => e = .returned (.bool (Lb.fCmp (L.getD j d0).1 q == 0)) ∧ Below W.heap.size W w' := fun j hjn W hW => by
  obtain ⟨ya, ym, yc, e, hm2, hp2, _⟩ := (hj j (by omega)).1
  rw [e]
  exact Lb.refSame_any ya ym yc _ qa qn qc q W (by omega) (by omega) (hp2.later hW) (hp.later hW)
 have hcmp : ∀ j, j < n → ∀ W, Below w.heap.size w W → Calls Tryz.prog 43 #[(rs.getD j r0).2.1, .slice qa qn qc] W fun e w' => e = .returned (.int .i64 (Lb.fCmp (L.getD j d0).1 q)) ∧ Below W.heap.size W w' := fun j hjn W hW => by
  obtain ⟨ya, ym, yc, e, hm2, hp2, _⟩ := (hj j (by omega)).1
  rw [e]
  exact Lb.refCmp_any ya ym yc _ qa qn qc q W (by omega) (by omega) (hp2.later hW) (hp.later hW)
 have hlv : lvN now rs n = liveL now L := by
  rw [live_eq (fun j e => (hj j e).2) n (by omega), List.take_of_length_le (by omega)]
  rfl
 have hF := find_fst (q := q) (L := L)
 rw [show L.length = n by omega] at hF
 have hA : addL now L q (t, xo, xn) = match findL q L with
  | some j => L.set j ((L.getD j d0).1, (L.getD j d0).2 ++ [adN (t, xo, xn)])
  | none => L.take (posL q L) ++ (q, [adN (t, xo, xn)]) :: L.drop (posL q L) := by
  unfold addL
  rw [if_neg (by rw [hz]; exact fun e => e rfl)]
  cases findL q L <;> rfl
 rw [hA]
 unfold addE at hz
 by_cases c1 : Lb.fIs q = false
 ·
  rw [if_pos c1] at hz; cases hz
 rw [if_neg c1] at hz
 rw [show Lb.fIs q = true by simpa using c1] at his
 by_cases c2 : t < 0 ∨ now < t ∨ t ≤ now - 100
 ·
  rw [if_pos c2] at hz; cases hz
 rw [if_neg c2] at hz
 have hok : 0 ≤ t ∧ t ≤ now ∧ now - 100 < t := by omega
 cases hf : findL q L with
 | none =>
  rw [hf] at hF hz
  dsimp only at hz ⊢
  by_cases c3 : 16 ≤ liveL now L
  ·
   rw [if_pos c3] at hz; cases hz
  refine (add_new hb now ao n cap rs _ t xo xn _ w base hx (fun j => Lb.fCmp (L.getD j d0).1 q) (posL q L) qn cs hcmp (fun W hG => hap W hG.size (hq0.gf hG (fun h0 g hg e => hqF h0 g hg (hFt g (e.imp id Or.inl))))) (by have := pos_le q L; omega) (fun i hi => pos_lt hi) (fun hk => pos_ge (by omega)) his hsame hok hF (by omega) hxn (by omega) hbase).mono ?_
  rintro e w' ⟨rfl, lv, g, c', p, gs, hX, hO, hg, hp1, hg1, hG⟩
  have hk := pos_le q L
  generalize posL q L = k at *
  refine ⟨rfl, ⟨_, _, _, _, hX, by simp; omega, ?_, ?_⟩, hG.mono (fun x e => hFt x (e.imp (fun e => e) (fun e => Or.inl e)))⟩
  ·
   rintro x (e | e | ⟨r, hr, e⟩)
   ·
    exact Or.inl (hFt x (Or.inl e))
   ·
    have : g = x := by simpa [Value.ownBlock] using e
    subst this
    exact hg.imp (fun e => hFt _ (Or.inr (Or.inl e))) (fun e => e)
   ·
    rcases List.mem_append.1 hr with h1 | h1
    ·
     exact Or.inl (hFt x (Or.inr (Or.inr ⟨r, List.mem_of_mem_take h1, e⟩)))
    ·
     rcases List.mem_cons.1 h1 with h1 | h1
     ·
      subst h1
      rcases e with e | e
      ·
       exact Or.inr (by rw [e]; exact hp1)
      ·
       have : gs = x := by simpa [Value.ownBlock] using e
       exact Or.inr (this ▸ hg1)
     ·
      exact Or.inl (hFt x (Or.inr (Or.inr ⟨r, List.mem_of_mem_drop h1, e⟩)))
  ·
   intro i hi
   rw [getD_ins _ _ _ _ _ (by omega), getD_ins _ _ _ _ _ (by omega)]
   have hgf : ∀ i, i < L.length → Pq w' (rs.getD i r0).2.1 (L.getD i d0).1 := fun i hi => (hj i hi).1.gf hG (fun g hg e => hx.no_pairs g hg (e.imp (fun e => e) (fun e => Or.inl e)))
   by_cases e1 : i < k
   ·
    rw [if_pos e1, if_pos e1]
    exact ⟨hgf i (by omega), (hj i (by omega)).2⟩
   ·
    rw [if_neg e1, if_neg e1]
    by_cases e2 : i = k
    ·
     rw [if_pos e2, if_pos e2]
     exact ⟨hpq _ _ hO, rfl⟩
    ·
     rw [if_neg e2, if_neg e2]
     have : i - 1 < L.length := by simp at hi; omega
     exact ⟨hgf _ this, (hj _ this).2⟩
 | some j =>
  rw [hf] at hF hz
  dsimp only at hz ⊢
  have hjn := hF.1
  have hjl := (hj j (by omega)).2
  rw [← hjl] at hz
  have hmr := hx.r _ (getD_memR (by omega : j < rs.length))
  have hm1 : (rs.getD j r0).2.2.2.1 + 1 ≤ 1000000 := by have := hS j (by omega); rw [← hjl, hmr.m.m.1] at this; exact this
  have hcall : Calls Tryz.prog 14 #[.pointer (some ⟨hb, 0, none⟩), .slice qa qn qc, sv (t, xo, xn)] w fun e w' => e = .returned (.int .i64 0) ∧ ∃ g c', Hx w' hb now base ao n cap (rs.set j ((rs.getD j r0).1, (rs.getD j r0).2.1, some ⟨g, 0, none⟩, (rs.getD j r0).2.2.2.1 + 1, c', (rs.getD j r0).2.2.2.2.2 ++ [(t, ov (cnt xo xn), nn (cnt xo xn))])) ∧ ((sl (rs.getD j r0)).ownBlock = some g ∨ w.heap.size ≤ g) ∧ Gf w w' (fun k => k = (rs.getD j r0).1 ∨ (sl (rs.getD j r0)).ownBlock = some k) := by
   by_cases c3 : now - 100 < (lst (rs.getD j r0).2.2.2.2.2).1
   ·
    rw [if_pos c3] at hz
    by_cases c4 : t ≤ (lst (rs.getD j r0).2.2.2.2.2).1
    ·
     rw [if_pos c4] at hz; cases hz
    exact add_there j _ hb now ao n cap rs _ t xo xn _ w base hx his hsame hok hF rfl hxn hm1 hbase c3 (by omega)
   ·
    rw [if_neg c3] at hz
    by_cases c4 : 16 ≤ liveL now L
    ·
     rw [if_pos c4] at hz; cases hz
    exact add_back j _ hb now ao n cap rs _ t xo xn _ w base hx his hsame hok hF rfl hxn hm1 hbase (by omega) (by omega)
  refine hcall.mono ?_
  rintro e w' ⟨rfl, g, c', hX, hg, hG⟩
  have hmem := getD_memR (by omega : j < rs.length)
  have hsub : ∀ k, (k = (rs.getD j r0).1 ∨ (sl (rs.getD j r0)).ownBlock = some k) → Ft hb (.slice ao n cap) rs k := fun k e => Or.inr (Or.inr ⟨_, hmem, e⟩)
  refine ⟨rfl, ⟨_, _, _, _, hX, by simp [hl], ?_, ?_⟩, hG.mono (fun k e => hFt k (hsub k e))⟩
  ·
   rintro x (e | e | ⟨r, hr, e⟩)
   ·
    exact Or.inl (hFt x (Or.inl e))
   ·
    exact Or.inl (hFt x (Or.inr (Or.inl e)))
   ·
    rcases List.mem_or_eq_of_mem_set hr with h1 | h1
    ·
     exact Or.inl (hFt x (Or.inr (Or.inr ⟨r, h1, e⟩)))
    ·
     subst h1
     rcases e with e | e
     ·
      exact Or.inl (hFt x (hsub x (Or.inl e)))
     ·
      have : g = x := by simpa [Value.ownBlock] using e
      subst this
      exact hg.imp (fun e => hFt _ (hsub _ (Or.inr e))) (fun e => e)
  ·
   intro i hi
   rw [List.length_set] at hi
   have hpi := (hj i hi).1.gf hG (fun g hg e => hx.no_pairs g hg (hsub g e))
   rw [getD_set' _ _ _ _ _ (by omega), getD_set' _ _ _ _ _ (by omega)]
   by_cases e : i = j
   ·
    rw [if_pos e, if_pos e]
    rw [e] at hpi
    exact ⟨hpi, by rw [hjl]; rfl⟩
   ·
    rw [if_neg e, if_neg e]
    exact ⟨hpi, (hj i hi).2⟩
end Go.Proofs.YtjgckfcocmhnhaaGreatDoor.Hy
namespace Go.Proofs.YtjgckfcocmhnhaaGreatDoor.Hy
open Go.RowKit
theorem adv_hist (hb : Nat) (now : Int) (base : Nat) (F : Nat → Prop) (L : HL) (m : Int) (w : World) (h : Hf w hb now base F L) :
  Calls Tryz.prog 12 #[.pointer (some ⟨hb, 0, none⟩), .int .i64 m] w fun e w' => e = .returned (.tuple #[]) ∧ Hf w' hb (onw now m) base F L ∧ w.grownBy w' (some hb) := by
 obtain ⟨ao, n, cap, rs, hx, hl, hFt, hj⟩ := h
 refine (advance_any hb now base ao n cap rs m w hx).mono ?_
 rintro e w' ⟨rfl, hX, hg⟩
 have hG : Gf w w' (fun k => k = hb) := Gf.of hg (fun k e _ => by injection e with e; exact e.symm)
 exact ⟨rfl, ⟨_, _, _, _, hX, hl, hFt, fun j e => ⟨(hj j e).1.gf hG (fun g ht e => hx.no_pairs g ht (Or.inl e)), (hj j e).2⟩⟩, hg⟩
theorem live_hist (hb : Nat) (now : Int) (base : Nat) (F : Nat → Prop) (L : HL) (w : World) (h : Hf w hb now base F L) :
  Calls Tryz.prog 41 #[.pointer (some ⟨hb, 0, none⟩)] w fun e w' => e = .returned (.int .i64 (liveL now L : Nat)) ∧ Below w.heap.size w w' := by
 obtain ⟨ao, n, cap, rs, hx, hl, _, hj⟩ := h
 have hn : rs.length = n := hx.hm.p.1
 have hlv : lvN now rs n = liveL now L := by
  rw [live_eq (fun j e => (hj j e).2) n (by omega), List.take_of_length_le (by omega)]
  rfl
 rw [← hlv]
 exact live_any hb now ao n cap rs w hx.hm
/-- A series where Find finds it. -/
def At_ (w : World) (v : Value) (l : List Smp) : Prop := ∃ p lv ao n cap, v = .pointer (some ⟨p, 0, none⟩) ∧ Sr w p lv (.slice ao n cap) ∧ Ms w ao n l ∧ 0 < n ∧ n ≤ 1000000
theorem find_hist (hb : Nat) (now : Int) (base : Nat) (F : Nat → Prop) (L : HL) (qa : Option Addr) (qn qc : Nat) (q : List Lb.Pr) (w : World) (h : Hf w hb now base F L) (hq : Pv w (.slice qa qn qc) q) :
  Calls Tryz.prog 38 #[.pointer (some ⟨hb, 0, none⟩), .slice qa qn qc] w fun e w' => ∃ v, e = .returned v ∧ Below w.heap.size w w' ∧ (match findL q L with | none => v = .pointer none | some j => j < L.length ∧ At_ w' v (L.getD j d0).2) := by
 obtain ⟨ao, n, cap, rs, hx, hl, _, hj⟩ := h
 obtain ⟨xa, xm, xc, e, hm, hp⟩ := hq
 injection e with e1 e2 e3
 subst e1 e2 e3
 have hm' := hx.hm
 have hn : rs.length = n := hm'.p.1
 have hsame : ∀ j, j < n → ∀ W, Below w.heap.size w W → Calls Tryz.prog 45 #[(rs.getD j r0).2.1, .slice qa qn qc] W fun e w' => e = .returned (.bool (Lb.fCmp (L.getD j d0).1 q == 0)) ∧ Below W.heap.size W w' := fun j hjn W hW => by
  obtain ⟨ya, ym, yc, e, hm2, hp2, _⟩ := (hj j (by omega)).1
  rw [e]
  exact Lb.refSame_any ya ym yc _ qa qn qc q W (by omega) (by omega) (hp2.later hW) (hp.later hW)
 have hF := find_fst (q := q) (L := L)
 rw [show L.length = n by omega] at hF
 refine (find_any hb now ao n cap rs _ _ w hm' hsame).mono ?_
 rintro e w' ⟨o, rfl, ho, hb1⟩
 obtain rfl := ho.unique hF
 refine ⟨_, rfl, hb1, ?_⟩
 cases hf : findL q L with
 | none => rfl
 | some j =>
  rw [hf] at hF
  have hjn := hF.1
  have hr := (hx.r _ (getD_memR (by omega : j < rs.length))).later hb1
  refine ⟨by omega, (rs.getD j r0).1, _, _, _, _, rfl, hr.m.s, ?_, hr.m.n⟩
  have hms := hr.m.m
  rw [(hj j (by omega)).2] at hms
  exact hms
end Go.Proofs.YtjgckfcocmhnhaaGreatDoor.Hy
