/- Kinds of the reference: two rows beside one another: get, set. -/
import Derived.Test.YtcbjhfnlhpallaaGreatDoorERefL
import Derived.Test.YtcbjhfnlhpallaaGreatDoorETake
import Derived.Test.YtcbjhfnlhpallaaGreatDoorEInts
namespace Go.Proofs.YtcbjhfnlhpallaaGreatDoor
open Go.RowKit

/-! ### In plain words -/
def befN (ns : List Str) (s : Str) (j : Nat) : Prop := ∀ i : Nat, i < j → ns.getD i [] ≠ s
theorem idx_ne {y s : Str} (r : List Str) (h : y ≠ s) : (y :: r).idxOf s = r.idxOf s + 1 := by
  rw [List.idxOf_cons, show (y == s) = false from beq_eq_false_iff_ne.2 h]
  rfl
theorem idx_hit : ∀ (ns : List Str) (s : Str) (j : Nat), j < ns.length → befN ns s j → ns.getD j [] = s → s ∈ ns ∧ ns.idxOf s = j
  | [], _, _, h, _, _ => by simp at h
  | y :: r, s, 0, _, _, e => by
    have e : y = s := by simpa using e
    subst e
    simp
  | y :: r, s, j + 1, h, hb, e => by
    have hy : y ≠ s := by have := hb 0 (by omega); simpa using this
    obtain ⟨h1, h2⟩ := idx_hit r s j (by simpa using h) (fun i hi => by have := hb (i + 1) (by omega); simpa using this) (by simpa using e)
    refine ⟨by simp [h1], ?_⟩
    rw [idx_ne _ hy, h2]
theorem idx_miss : ∀ (ns : List Str) (s : Str), befN ns s ns.length → s ∉ ns
  | [], _, _ => by simp
  | y :: r, s, hb => by
    have hy : y ≠ s := by have := hb 0 (by simp); simpa using this
    have := idx_miss r s (fun i hi => by have := hb (i + 1) (by simpa using hi); simpa using this)
    simp [this, Ne.symm hy]
def pN (ns : List Str) (s : Str) : List Str := if s ∈ ns then ns else ns ++ [s]
def pK (ns : List Str) (ks : List Int) (s : Str) (x : Int) : List Int := if s ∈ ns then ks.set (ns.idxOf s) x else ks ++ [x]
def lk (ns : List Str) (ks : List Int) (s : Str) : Int := if s ∈ ns then ks.getD (ns.idxOf s) 0 else 0
theorem pN_pK {ns : List Str} {ks : List Int} (h : ns.length = ks.length) (s : Str) (x : Int) : (pN ns s).length = (pK ns ks s x).length ∧ (pN ns s).length ≤ ns.length + 1 := by
  unfold pN pK
  split <;> simp [h]
theorem idx_inj : ∀ (ns : List Str) (s t : Str), s ∈ ns → ns.idxOf s = ns.idxOf t → s = t
  | [], _, _, h, _ => by cases h
  | y :: r, s, t, h, e => by
    by_cases hs : y = s
    · subst hs
      by_cases ht : y = t
      · exact ht
      · rw [List.idxOf_cons_self, idx_ne _ ht] at e
        cases e
    · by_cases ht : y = t
      · subst ht
        rw [List.idxOf_cons_self, idx_ne _ hs] at e
        cases e
      · rw [idx_ne _ hs, idx_ne _ ht] at e
        exact idx_inj r s t (by rcases List.mem_cons.1 h with h | h; exact absurd h.symm hs; exact h) (by omega)
theorem lk_put {ns : List Str} {ks : List Int} (h : ns.length = ks.length) (s t : Str) (x : Int) : lk (pN ns s) (pK ns ks s x) t = if t = s then x else lk ns ks t := by
  unfold lk pN pK
  by_cases hs : s ∈ ns
  · simp only [if_pos hs]
    have hi : ns.idxOf s < ks.length := by rw [← h]; exact List.idxOf_lt_length_iff.2 hs
    by_cases ht : t = s
    · subst ht
      rw [if_pos hs, if_pos rfl]
      simp [List.getD, hi]
    · rw [if_neg ht]
      by_cases hm : t ∈ ns
      · rw [if_pos hm, if_pos hm]
        have hne : ns.idxOf s ≠ ns.idxOf t := fun e => ht (idx_inj ns s t hs e).symm
        simp [List.getD, hne]
      · rw [if_neg hm, if_neg hm]
  · simp only [if_neg hs]
    by_cases ht : t = s
    · subst ht
      rw [if_pos (by simp), if_pos rfl, List.idxOf_append, if_neg hs]
      simp [h, List.getD]
    · rw [if_neg ht]
      by_cases hm : t ∈ ns
      · have hi : ns.idxOf t < ks.length := by rw [← h]; exact List.idxOf_lt_length_iff.2 hm
        rw [if_pos (by simp [hm]), if_pos hm, List.idxOf_append, if_pos hm]
        simp [List.getD, List.getElem?_append_left hi]
      · rw [if_neg (by simp [hm, ht]), if_neg hm]

/-! ### In memory -/
theorem tag_ne {w : World} {b1 e1 s1 n1 b2 e2 s2 n2 : Nat} {v1 v2 : Value} {xs1 xs2 : List Value} (h1 : w.ownsRow b1 e1 s1 v1 n1 xs1) (h2 : w.ownsRow b2 e2 s2 v2 n2 xs2) (hne : e1 ≠ e2) : ∀ b, v1.ownBlock = some b → v2.ownBlock ≠ some b := by
  intro b h h'
  rcases h1.2 with ⟨rfl, _⟩ | ⟨g, cap, cur, rfl, _, hg, _⟩
  · cases h
  · rcases h2.2 with ⟨rfl, _⟩ | ⟨g', cap', cur', rfl, _, hg', _⟩
    · cases h'
    · injection h with h
      injection h' with h'
      subst h
      simp only at h'
      subst h'
      rw [hg] at hg'
      injection hg' with hg'
      injection hg' with _ e
      exact hne e
structure Kp (w : World) (base kb : Nat) (a b nv kv : Value) (ns : List Str) (ks : List Int) : Prop where
  c0 : w.cell? ⟨kb, 0, none⟩ = some a
  c1 : w.cell? ⟨kb, 1, none⟩ = some b
  f0 : w.frozen? ⟨kb, 0, none⟩ = false
  f1 : w.frozen? ⟨kb, 1, none⟩ = false
  on : OwnS w base nv ns
  ok : OwnI w base kv ks
  kl : kb < base
theorem OwnS.kept {w w' : World} {row : Option Nat} {base : Nat} {v : Value} {l : List Str} (h : OwnS w base v l) (hg : w.grownBy w' row) (hne : ∀ b, v.ownBlock = some b → some b ≠ row) : OwnS w' base v l := by
  refine World.ownsRow.kept h hg ?_
  cases e : v.ownBlock with
  | none => exact Or.inl rfl
  | some b => exact Or.inr (hne b e)
section
variable {w w' : World} {base kb : Nat} {a b nv kv : Value} {ns : List Str} {ks : List Int}
theorem Kp.klt (h : Kp w base kb a b nv kv ns ks) : kb < w.heap.size := World.block_lt_of_cell? _ _ h.c0
theorem Kp.kn (h : Kp w base kb a b nv kv ns ks) : nv.ownBlock ≠ some kb := fun e => by have := (World.ownsRow.lt h.on _ e).1; have := h.kl; omega
theorem Kp.kk (h : Kp w base kb a b nv kv ns ks) : kv.ownBlock ≠ some kb := fun e => by have := (World.ownsRow.lt h.ok _ e).1; have := h.kl; omega
theorem Kp.nk (h : Kp w base kb a b nv kv ns ks) : ∀ b, nv.ownBlock = some b → kv.ownBlock ≠ some b := tag_ne h.on h.ok (by decide)
theorem Kp.kept {row : Option Nat} (h : Kp w base kb a b nv kv ns ks) (hg : w.grownBy w' row) (h0 : some kb ≠ row) (h1 : ∀ b, nv.ownBlock = some b → some b ≠ row) (h2 : ∀ b, kv.ownBlock = some b → some b ≠ row) : Kp w' base kb a b nv kv ns ks :=
  ⟨grown_cell hg h.c0 h0, grown_cell hg h.c1 h0, grown_frozen hg h.klt h.f0 h0, grown_frozen hg h.klt h.f1 h0, h.on.kept hg h1, h.ok.kept hg h2, h.kl⟩
theorem Kp.later (h : Kp w base kb a b nv kv ns ks) (hb : Below w.heap.size w w') : Kp w' base kb a b nv kv ns ks := h.kept (grown_below hb none) (by simp) (by simp) (by simp)
theorem Kp.grow8 {v : Value} {s : Str} (h : Kp w base kb a b nv kv ns ks) (ho : w'.ownsRow base 9 1 v (ns.length + 1) (ns.map tx ++ [tx s])) (hg : w.grownBy w' nv.ownBlock) : Kp w' base kb a b v kv (ns ++ [s]) ks :=
  have h0 : some kb ≠ nv.ownBlock := fun e => h.kn e.symm
  ⟨grown_cell hg h.c0 h0, grown_cell hg h.c1 h0, grown_frozen hg h.klt h.f0 h0, grown_frozen hg h.klt h.f1 h0, OwnS.snoc ho, h.ok.kept hg (fun b e e2 => h.nk b e2.symm e), h.kl⟩
theorem Kp.grow15 {v : Value} {x : Int} (h : Kp w base kb a b nv kv ns ks) {n : Nat} (hq : ks.length = n) (ho : w'.ownsRow base 3 1 v (n + 1) (ks.map iv ++ [iv x])) (hg : w.grownBy w' kv.ownBlock) : Kp w' base kb a b nv v ns (ks ++ [x]) :=
  have h0 : some kb ≠ kv.ownBlock := fun e => h.kk e.symm
  ⟨grown_cell hg h.c0 h0, grown_cell hg h.c1 h0, grown_frozen hg h.klt h.f0 h0, grown_frozen hg h.klt h.f1 h0, h.on.kept hg (fun b e e2 => h.nk b e e2.symm), OwnI.snoc (hq ▸ ho), h.kl⟩
theorem Kp.set0 (h : Kp w base kb a b nv kv ns ks) (v : Value) : Kp (w.setCell ⟨kb, 0, none⟩ v) base kb v b nv kv ns ks := by
  have hg := grown_set w kb 0 v
  refine ⟨World.cell?_setCell_same' _ _ _ (by rw [h.c0]; rfl), ?_, by simpa using h.f0, by simpa using h.f1, h.on.kept hg (fun b e e2 => h.kn (by rw [e, e2])), h.ok.kept hg (fun b e e2 => h.kk (by rw [e, e2])), h.kl⟩
  rw [World.cell?_setCell_other _ _ _ _ (by intro e; cases e)]; exact h.c1
theorem Kp.set1 (h : Kp w base kb a b nv kv ns ks) (v : Value) : Kp (w.setCell ⟨kb, 1, none⟩ v) base kb a v nv kv ns ks := by
  have hg := grown_set w kb 1 v
  refine ⟨?_, World.cell?_setCell_same' _ _ _ (by rw [h.c1]; rfl), by simpa using h.f0, by simpa using h.f1, h.on.kept hg (fun b e e2 => h.kn (by rw [e, e2])), h.ok.kept hg (fun b e e2 => h.kk (by rw [e, e2])), h.kl⟩
  rw [World.cell?_setCell_other _ _ _ _ (by intro e; cases e)]; exact h.c0
end
theorem ok_at {w : World} {base n : Nat} {v : Value} {l : List Int} (hq : l.length = n) (h : OwnI w base v l) : w.ownsRow base 3 1 v n (l.map iv) := hq ▸ h
theorem OwnI.put {w : World} {base : Nat} {v : Value} {l : List Int} (h : OwnI w base v l) (j : Nat) (hj : j < l.length) (x : Int) : ∃ g cap, v = .slice (some ⟨g, 0, Option.none⟩) l.length cap ∧ g < w.heap.size ∧ base ≤ g ∧ w.frozen? ⟨g, j, Option.none⟩ = false ∧ (w.cell? ⟨g, j, Option.none⟩ = some (iv (l.getD j 0))) ∧ OwnI (w.setCell ⟨g, j, Option.none⟩ (iv x)) base v (l.set j x) := by
  rcases h.2 with ⟨_, h0⟩ | ⟨g, cap, cur, rfl, hb, hg, hn, hm, hs, ht⟩
  · omega
  · have hlt : g < w.heap.size := (Array.getElem?_eq_some_iff.1 hg).1
    refine ⟨g, cap, rfl, hlt, hb, frozen_of_row w g j cur 3 hg, ?_, ?_⟩
    · rw [cell_of_row w g j cur 3 _ hg]
      have e1 : (cur.toList.take (l.length * 1))[j]? = (l.map iv)[j]? := by rw [ht]
      rw [List.getElem?_take_of_lt (by omega), Array.getElem?_toList] at e1
      rw [e1, List.getElem?_map, List.getElem?_eq_getElem hj]
      simp [List.getD, List.getElem?_eq_getElem hj]
    · unfold OwnI
      rw [List.length_set]
      refine ⟨by simp, Or.inr ⟨g, cap, _, rfl, hb, heap_setCell_same w g j cur 3 _ hg, hn, hm, by simp [hs], ?_⟩⟩
      rw [Array.toList_setIfInBounds, List.take_set, ht, List.map_set]
/-- What set leaves alone. -/
def Far (w : World) (kb : Nat) (nv kv : Value) (b : Nat) : Prop := b < w.heap.size ∧ b ≠ kb ∧ nv.ownBlock ≠ some b ∧ kv.ownBlock ≠ some b

theorem one_cell0 {w : World} {b : Nat} {v : Value} (h : w.cell? ⟨b, 0, none⟩ = some v) : ∀ j u, [v][j]? = some u → w.cell? ((⟨b, 0, none⟩ : Addr).add j) = some u := by
  intro j u hu
  rw [Addr.add_lit, Nat.zero_add]
  match j, hu with
  | 0, hu => rw [h]; exact hu
  | j + 1, hu => simp at hu

/-! ### get -/
set_option maxHeartbeats 4000000 in
theorem kget_any (w : World) (base kb : Nat) (nv kv : Value) (ns : List Str) (ks : List Int) (s : Str) (h : Kp w base kb nv kv nv kv ns ks) (hl : ns.length = ks.length) (hn : ns.length ≤ 1000000) :
    Calls Tryz.prog 33 #[.pointer (some ⟨kb, 0, none⟩), tx s] w fun e w' => e = .returned (.int .i64 (lk ns ks s)) ∧ w = w' := by
  obtain ⟨c0, c1, f0, f1, on, ok, _⟩ := h
  obtain ⟨na, cn, rfl, hss, _, _⟩ := on.slice
  obtain ⟨ka, ck, rfl, hks⟩ := ok.view
  obtain ⟨_, hss⟩ := hss
  obtain ⟨_, hks⟩ := hks
  rw [← hl] at hks c1
  have HH : Hid (∀ j : Nat, j < ns.length → befN ns s j → ns.getD j [] = s → lk ns ks s = ks.getD j 0) := fun j h1 h2 h3 => by
    obtain ⟨i1, i2⟩ := idx_hit ns s j h1 h2 h3
    unfold lk
    rw [if_pos i1, i2]
  have HM : Hid (befN ns s ns.length → lk ns ks s = 0) := fun h => by unfold lk; rw [if_neg (idx_miss ns s h)]
  clear hl on ok
  generalize lk ns ks s = y at *
  go_enter Tryz.func33, Tryz.ntmps33
  go_wp2
  go_loop [5] (fun i => ∃ j : Nat, j ≤ ns.length ∧ i = .int .i64 j ∧ Hid (befN ns s j)) (fun i => ns.length - (intOf i).toNat)
  case atStart => exact ⟨0, by omega, rfl, fun i hi => by omega⟩
  case round =>
    obtain ⟨j, hj, rfl, HB⟩ := hrel
    by_cases hlt : j < ns.length
    · obtain ⟨nb, no, rfl, hcs⟩ := hss (by omega)
      obtain ⟨vb, vo, rfl, hds⟩ := hks (by omega)
      have k0 := hcs j hlt
      have d0 := hds j hlt
      clear hcs hds hss hks
      by_cases he : ns.getD j [] = s
      · have HX : Hid (y = ks.getD j 0) := HH.out j hlt HB.out he
        have he' : (ns.getD j [] == s) = true := beq_iff_eq.2 he
        clear he HH HM HB
        generalize ns.getD j [] = t at *
        generalize ks.getD j 0 = z at *
        go_wp2
        go_ret
        exact ⟨by rw [HX.out]; rfl, rfl⟩
      · have he' : (ns.getD j [] == s) = false := beq_eq_false_iff_ne.2 he
        have HB' : Hid (befN ns s (j + 1)) := fun i hi e => by
          rcases Nat.lt_or_ge i j with h | h
          · exact HB.out i h e
          · obtain rfl : i = j := by omega
            exact he e
        clear he HH HM HB
        generalize ns.getD j [] = t at *
        go_wp2
        go_round
        case rel => exact ⟨j + 1, by omega, by go_num, HB'⟩
        case measure => simp [intOf]; omega
    · obtain rfl : j = ns.length := by omega
      have HX : Hid (y = 0) := HM.out HB.out
      clear HH HM HB hss hks
      go_wp2
      go_ret
      exact ⟨by rw [HX.out]; rfl, rfl⟩

/-! ### set -/
set_option maxRecDepth 20000 in
set_option maxHeartbeats 16000000 in
theorem kset_any (w : World) (base kb : Nat) (nv kv : Value) (ns : List Str) (ks : List Int) (s : Str) (x : Int) (h : Kp w base kb nv kv nv kv ns ks) (hl : ns.length = ks.length) (hn : ns.length ≤ 1000000) (hbw : base ≤ w.heap.size) :
    Calls Tryz.prog 32 #[.pointer (some ⟨kb, 0, none⟩), tx s, .int .i64 x] w fun e w' => e = .returned (.tuple #[]) ∧ ∃ nv' kv', Kp w' base kb nv' kv' nv' kv' (pN ns s) (pK ns ks s x) ∧ Keep (Far w kb nv kv) w w' ∧ (∀ b, nv'.ownBlock = some b → nv.ownBlock = some b ∨ w.heap.size ≤ b) ∧ (∀ b, kv'.ownBlock = some b → kv.ownBlock = some b ∨ w.heap.size ≤ b) := by
  have HP : Hid (∀ j : Nat, j < ns.length → befN ns s j → ns.getD j [] = s → pN ns s = ns ∧ pK ns ks s x = ks.set j x) := fun j h1 h2 h3 => by
    obtain ⟨i1, i2⟩ := idx_hit ns s j h1 h2 h3
    unfold pN pK
    rw [if_pos i1, if_pos i1, i2]
    exact ⟨rfl, rfl⟩
  have HM : Hid (befN ns s ns.length → pN ns s = ns ++ [s] ∧ pK ns ks s x = ks ++ [x]) := fun hb => by
    have := idx_miss ns s hb
    unfold pN pK
    rw [if_neg this, if_neg this]
    exact ⟨rfl, rfl⟩
  have hnl := fun b e => (World.ownsRow.lt h.on b e).2
  have hkl := fun b e => (World.ownsRow.lt h.ok b e).2
  have hput := fun j hj => h.ok.put j hj x
  have hF : ∀ b, Far w kb nv kv b → b < w.heap.size := fun b hb => hb.1
  obtain ⟨na, cn, rfl, hss, _, _⟩ := h.on.slice
  obtain ⟨ka, ck, rfl, _⟩ := h.ok.view
  rw [← hl]
  have hch : Kp w base kb (.slice na ns.length cn) (.slice ka ns.length ck) (.slice na ns.length cn) (.slice ka ns.length ck) ns ks := by rw [hl] at h ⊢; exact h
  rw [← hl] at hput hkl
  generalize pN ns s = N' at *
  generalize pK ns ks s x = K' at *
  obtain ⟨_, hss⟩ := hss
  have c0 := hch.c0
  have c1 := hch.c1
  have HLK : Hid (ks.length = ns.length) := hl.symm
  rw [← hl] at hF h
  clear h hl
  have h := hch
  clear hch
  go_enter Tryz.func32, Tryz.ntmps32
  go_wp2
  go_loop [6] (fun i => ∃ j : Nat, j ≤ ns.length ∧ i = .int .i64 j ∧ Hid (befN ns s j)) (fun i => ns.length - (intOf i).toNat)
  case atStart => exact ⟨0, by omega, rfl, fun i hi => by omega⟩
  case round =>
    obtain ⟨j, hj, rfl, HB⟩ := hrel
    by_cases hlt : j < ns.length
    · obtain ⟨nb, no, rfl, hcs⟩ := hss (by omega)
      have k0 := hcs j hlt
      clear hcs hss
      by_cases he : ns.getD j [] = s
      · obtain ⟨p1, p2⟩ := HP.out j hlt HB.out he
        have HN' : Hid (N' = ns) := p1
        have HK' : Hid (K' = ks.set j x) := p2
        have he' : (ns.getD j [] == s) = true := beq_iff_eq.2 he
        obtain ⟨g, cap, e1, q1, q2, q3, q4, q5⟩ := hput j hlt
        obtain ⟨rfl, rfl⟩ : ka = some ⟨g, 0, none⟩ ∧ ck = cap := by injection e1 with e1 _ e2; exact ⟨e1, e2⟩
        clear he HP HM HB p1 p2 hput e1
        generalize ns.getD j [] = t at *
        go_wp2
        have hgs := grown_set w g j (.int .i64 x)
        have hgk : some kb ≠ some g := fun e => by injection e with e; have := h.kl; omega
        first | go_end0 | (refine bodyPost_ret (results_none rfl _ _ _) rfl ?_)
        refine ⟨rfl, _, _, ⟨grown_cell hgs c0 hgk, grown_cell hgs c1 hgk, grown_frozen hgs h.klt h.f0 hgk, grown_frozen hgs h.klt h.f1 hgk, ?_, ?_, h.kl⟩, Keep.grown hgs hF (fun b e hb => ?_), fun b e => Or.inl e, fun b e => Or.inl e⟩
        · rw [HN'.out]; exact h.on.kept hgs (fun b e e2 => h.nk b e (by injection e2 with e2; rw [e2]; rfl))
        · rw [HK'.out]; exact q5
        · injection e with e; subst e; exact hb.2.2.2 rfl
      · have he' : (ns.getD j [] == s) = false := beq_eq_false_iff_ne.2 he
        have HB' : Hid (befN ns s (j + 1)) := fun i hi e => by
          rcases Nat.lt_or_ge i j with h | h
          · exact HB.out i h e
          · obtain rfl : i = j := by omega
            exact he e
        clear he HP HM HB hput
        generalize ns.getD j [] = t at *
        go_wp2
        go_round
        case rel => exact ⟨j + 1, by omega, by go_num, HB'⟩
        case measure => simp [intOf]; omega
    · obtain rfl : j = ns.length := by omega
      obtain ⟨p1, p2⟩ := HM.out HB.out
      have HN' : Hid (N' = ns ++ [s]) := p1
      have HK' : Hid (K' = ks ++ [x]) := p2
      clear HP HM HB hss hput p1 p2 hlt hj
      obtain ⟨i9, hi9, hz90, hz91, hz92⟩ := info_parts9
      obtain ⟨i3, hi3, hz30, hz31, hz32⟩ := info_parts3
      go_wp2_with fail
      have D0 : Below w.heap.size w w.drew := (Below.refl _ _).drew
      have hk0 := h.later D0
      have Kf0 := Keep.of D0 hF
      refine wp_region_noPanic ?_
      refine wp_region_held_drew (S := fun _ => True) (by kernel_rfl) ?_ (fun _ => ?_)
      · exact True.intro
      generalize w.drew = w0 at *
      clear c0 c1 D0 h
      refine take_at 0 (some 32) (.pointer (some ⟨kb, 0, none⟩)) rfl rfl (by kernel_rfl) (by kernel_rfl) (by kernel_rfl) (fun _ _ _ h => h) (by rfl) (fun W hSw => by go_simp) True.intro ?_
      simp only [Act.put, List.setIfInBounds_toArray, List.set_cons_zero, List.set_cons_succ]
      refine take_at 1 (some 33) (.pointer (some ⟨kb, 0, none⟩)) rfl rfl (by kernel_rfl) (by kernel_rfl) (by kernel_rfl) (fun _ _ _ h => h) (by rfl) (fun W hSw => by go_simp) True.intro ?_
      simp only [Act.put, List.setIfInBounds_toArray, List.set_cons_zero, List.set_cons_succ]
      refine take_at 2 (some 34) (.pointer (some ⟨kb, 0, none⟩)) rfl rfl (by kernel_rfl) (by kernel_rfl) (by kernel_rfl) (fun _ _ _ h => h) (by rfl) (fun W hSw => by go_simp) True.intro ?_
      simp only [Act.put, List.setIfInBounds_toArray, List.set_cons_zero, List.set_cons_succ]
      refine take_at 3 (some 35) (.pointer (some ⟨kb, 0, none⟩)) rfl rfl (by kernel_rfl) (by kernel_rfl) (by kernel_rfl) (fun _ _ _ h => h) (by rfl) (fun W hSw => by go_simp) True.intro ?_
      simp only [Act.put, List.setIfInBounds_toArray, List.set_cons_zero, List.set_cons_succ]
      refine take_at 4 (some 36) (.pointer (some ⟨kb, 0, none⟩)) rfl rfl (by kernel_rfl) (by kernel_rfl) (by kernel_rfl) (fun _ _ _ h => h) (by rfl) (fun W hSw => by go_simp) True.intro ?_
      simp only [Act.put, List.setIfInBounds_toArray, List.set_cons_zero, List.set_cons_succ]
      refine take_at 6 (some 38) (tx s) rfl rfl (by kernel_rfl) (by kernel_rfl) (by kernel_rfl) (fun _ _ _ h => h) (by rfl) (fun W hSw => by go_simp) True.intro ?_
      simp only [Act.put, List.setIfInBounds_toArray, List.set_cons_zero, List.set_cons_succ]
      refine take_at 9 (some 41) (.pointer (some ⟨kb, 0, none⟩)) rfl rfl (by kernel_rfl) (by kernel_rfl) (by kernel_rfl) (fun _ _ _ h => h) (by rfl) (fun W hSw => by go_simp) True.intro ?_
      simp only [Act.put, List.setIfInBounds_toArray, List.set_cons_zero, List.set_cons_succ]
      refine take_at 10 (some 42) (.pointer (some ⟨kb, 0, none⟩)) rfl rfl (by kernel_rfl) (by kernel_rfl) (by kernel_rfl) (fun _ _ _ h => h) (by rfl) (fun W hSw => by go_simp) True.intro ?_
      simp only [Act.put, List.setIfInBounds_toArray, List.set_cons_zero, List.set_cons_succ]
      refine take_at 11 (some 43) (.pointer (some ⟨kb, 1, none⟩)) rfl rfl (by kernel_rfl) (by kernel_rfl) (by kernel_rfl) (fun _ _ _ h => h) (by rfl) (fun W hSw => by go_simp) True.intro ?_
      simp only [Act.put, List.setIfInBounds_toArray, List.set_cons_zero, List.set_cons_succ]
      refine take_at 13 (some 45) (.int .i64 x) rfl rfl (by kernel_rfl) (by kernel_rfl) (by kernel_rfl) (fun _ _ _ h => h) (by rfl) (fun W hSw => by go_simp) True.intro ?_
      simp only [Act.put, List.setIfInBounds_toArray, List.set_cons_zero, List.set_cons_succ]
      refine wpAnyH_ready (rs := [5, 7, 12, 14]) (by kernel_rfl) (by simp) ?_
      refine AllReadyH.cons rfl (fun K hK => ?_) (AllReadyH.cons rfl (fun K hK => ?_) (AllReadyH.cons rfl (fun K hK => ?_) (AllReadyH.cons rfl (fun K hK => ?_) AllReadyH.nil)))
      · have cc := hk0.c0
        go_simp
        refine hK.out _ _ ?_ (fun _ => ?_)
        · exact True.intro
        clear hK K
        clear cc
        refine wpAnyH_ready (rs := [7, 12, 14]) (by kernel_rfl) (by simp) ?_
        refine AllReadyH.cons rfl (fun K hK => ?_) (AllReadyH.cons rfl (fun K hK => ?_) (AllReadyH.cons rfl (fun K hK => ?_) AllReadyH.nil))
        · go_simp
          have hz := bal (Below.refl _ w0) (.cells #[tx s] 9)
          have hk1 := hk0.later hz
          have Kf1 := Kf0.trans (Keep.of hz (fun b hb => Nat.lt_of_lt_of_le (hF b hb) Kf0.size))
          have p7 : (w0.alloc (.cells #[tx s] 9)).cell? ⟨w0.heap.size, 0, none⟩ = some (tx s) := by simp [go_sem]
          generalize hw : w0.alloc (.cells #[tx s] 9) = w1 at *
          clear hw hz
          refine hK.out _ _ ?_ (fun _ => ?_)
          · exact True.intro
          clear hK K
          refine wpAnyH_ready (rs := [8, 12, 14]) (by kernel_rfl) (by simp) ?_
          refine AllReadyH.cons rfl (fun K hK => ?_) (AllReadyH.cons rfl (fun K hK => ?_) (AllReadyH.cons rfl (fun K hK => ?_) AllReadyH.nil))
          · refine step_append_at _ _ (some 40) 48 rfl rfl (by rfl) base 9 i9 (tx []) 1 16 Tryz.underlying48 hi9 hz90 hz91 hz92 rfl (by decide) (.slice na ns.length cn) _ _ rfl hk1.on ⟨w0.heap.size, 0, none⟩ 1 1 [tx s] rfl rfl (one_cell0 p7) (fun u hu => by simp at hu; subst hu; rfl) (by unfold maxLen; omega) (by omega) (Nat.le_trans hbw Kf1.size) ?_
            intro v8 w2 ho8 hg8 hl8
            have hk2 := hk1.grow8 ho8 hg8
            have Kf2 := Kf1.trans (Keep.grown hg8 (fun b hb => Nat.lt_of_lt_of_le (hF b hb) Kf1.size) (fun b e hb => hb.2.2.1 e))
            have hv8 : ∀ b, v8.ownBlock = some b → (Value.slice na ns.length cn).ownBlock = some b ∨ w.heap.size ≤ b := fun b e => by
              rcases hl8 with h1 | h1
              · exact Or.inl (h1 ▸ e)
              · rw [h1] at e; injection e with e; exact Or.inr (by have := Kf1.size; omega)
            obtain ⟨ao8, cap8, rfl⟩ := own_shape ho8
            clear ho8 hg8 hl8 p7
            refine hK.out _ _ ?_ (fun _ => ?_)
            · exact True.intro
            clear hK K
            refine wpAnyH_ready (rs := [12, 14]) (by kernel_rfl) (by simp) ?_
            refine AllReadyH.cons rfl (fun K hK => ?_) (AllReadyH.cons rfl (fun K hK => ?_) AllReadyH.nil)
            · have cc := hk2.c1
              go_simp
              refine hK.out _ _ ?_ (fun _ => ?_)
              · exact True.intro
              clear hK K
              clear cc
              refine wpAnyH_ready (rs := [14]) (by kernel_rfl) (by simp) ?_
              refine AllReadyH.cons rfl (fun K hK => ?_) AllReadyH.nil
              go_simp
              have hz := bal (Below.refl _ w2) (.cells #[.int .i64 x] 3)
              have hk3 := hk2.later hz
              have Kf3 := Kf2.trans (Keep.of hz (fun b hb => Nat.lt_of_lt_of_le (hF b hb) Kf2.size))
              have p14 : (w2.alloc (.cells #[.int .i64 x] 3)).cell? ⟨w2.heap.size, 0, none⟩ = some (.int .i64 x) := by simp [go_sem]
              generalize hw : w2.alloc (.cells #[.int .i64 x] 3) = w3 at *
              clear hw hz
              refine hK.out _ _ ?_ (fun _ => ?_)
              · exact True.intro
              clear hK K
              refine wpAnyH_ready (rs := [15]) (by kernel_rfl) (by simp) ?_
              refine AllReadyH.cons rfl (fun K hK => ?_) AllReadyH.nil
              refine step_append_at _ _ (some 47) 27 rfl rfl (by rfl) base 3 i3 (.int .i64 0) 1 8 Tryz.underlying27 hi3 hz30 hz31 hz32 rfl (by decide) (.slice ka ns.length ck) _ _ rfl (ok_at HLK.out hk3.ok) ⟨w2.heap.size, 0, none⟩ 1 1 [.int .i64 x] rfl rfl (one_cell0 p14) (fun u hu => by simp at hu; subst hu; rfl) (by unfold maxLen; omega) (by omega) (Nat.le_trans hbw Kf3.size) ?_
              intro v15 w4 ho15 hg15 hl15
              have hk4 := hk3.grow15 HLK.out ho15 hg15
              have Kf4 := Kf3.trans (Keep.grown hg15 (fun b hb => Nat.lt_of_lt_of_le (hF b hb) Kf3.size) (fun b e hb => hb.2.2.2 e))
              have hv15 : ∀ b, v15.ownBlock = some b → (Value.slice ka ns.length ck).ownBlock = some b ∨ w.heap.size ≤ b := fun b e => by
                rcases hl15 with h1 | h1
                · exact Or.inl (h1 ▸ e)
                · rw [h1] at e; injection e with e; exact Or.inr (by have := Kf3.size; omega)
              obtain ⟨ao15, cap15, rfl⟩ := own_shape ho15
              clear ho15 hg15 hl15 p14
              refine hK.out _ _ ?_ (fun _ => ?_)
              · exact True.intro
              clear hK K
              refine take_at 16 (some 48) (.pointer (some ⟨kb, 0, none⟩)) rfl rfl (by kernel_rfl) (by kernel_rfl) (by kernel_rfl) (fun _ _ _ h => h) (by rfl) (fun W hSw => by go_simp) True.intro ?_
              simp only [Act.put, List.setIfInBounds_toArray, List.set_cons_zero, List.set_cons_succ]
              refine take_at 17 (some 49) (.pointer (some ⟨kb, 0, none⟩)) rfl rfl (by kernel_rfl) (by kernel_rfl) (by kernel_rfl) (fun _ _ _ h => h) (by rfl) (fun W hSw => by go_simp) True.intro ?_
              simp only [Act.put, List.setIfInBounds_toArray, List.set_cons_zero, List.set_cons_succ]
              refine wpAnyH_ready (rs := [18]) (by kernel_rfl) (by simp) ?_
              refine AllReadyH.cons rfl (fun K hK => ?_) AllReadyH.nil
              have cc := hk4.c0
              have ff := hk4.f0
              go_simp
              clear cc ff
              have hkA := hk4.set0 (.slice ao8 (ns.length + 1) cap8)
              have KfA := Kf4.trans (Keep.grown (grown_set w4 kb 0 (.slice ao8 (ns.length + 1) cap8)) (fun b hb => Nat.lt_of_lt_of_le (hF b hb) Kf4.size) (fun b e hb => hb.2.1 (by injection e with e; exact e.symm)))
              generalize hw : w4.setCell ⟨kb, 0, none⟩ (.slice ao8 (ns.length + 1) cap8) = wA at *
              clear hw
              refine hK.out _ _ ?_ (fun _ => ?_)
              · exact True.intro
              clear hK K
              refine take_at 19 (some 50) (.pointer (some ⟨kb, 0, none⟩)) rfl rfl (by kernel_rfl) (by kernel_rfl) (by kernel_rfl) (fun _ _ _ h => h) (by rfl) (fun W hSw => by go_simp) True.intro ?_
              simp only [Act.put, List.setIfInBounds_toArray, List.set_cons_zero, List.set_cons_succ]
              refine take_at 20 (some 51) (.pointer (some ⟨kb, 1, none⟩)) rfl rfl (by kernel_rfl) (by kernel_rfl) (by kernel_rfl) (fun _ _ _ h => h) (by rfl) (fun W hSw => by go_simp) True.intro ?_
              simp only [Act.put, List.setIfInBounds_toArray, List.set_cons_zero, List.set_cons_succ]
              refine wpAnyH_ready (rs := [21]) (by kernel_rfl) (by simp) ?_
              refine AllReadyH.cons rfl (fun K hK => ?_) AllReadyH.nil
              have cc := hkA.c1
              have ff := hkA.f1
              go_simp
              clear cc ff
              have hkB := hkA.set1 (.slice ao15 (ns.length + 1) cap15)
              have KfB := KfA.trans (Keep.grown (grown_set wA kb 1 (.slice ao15 (ns.length + 1) cap15)) (fun b hb => Nat.lt_of_lt_of_le (hF b hb) KfA.size) (fun b e hb => hb.2.1 (by injection e with e; exact e.symm)))
              generalize hw : wA.setCell ⟨kb, 1, none⟩ (.slice ao15 (ns.length + 1) cap15) = wB at *
              clear hw
              refine hK.out _ _ ?_ (fun _ => ?_)
              · exact True.intro
              clear hK K
              refine wpAnyH_done (by kernel_rfl) ?_ _
              refine NoPanic.normal ?_
              go_wp2
              first | go_end0 | (refine bodyPost_ret (results_none rfl _ _ _) rfl ?_)
              exact ⟨rfl, _, _, by rw [HN'.out, HK'.out]; exact hkB, KfB, hv8, hv15⟩
            · go_simp
              have hz := bal (Below.refl _ w2) (.cells #[.int .i64 x] 3)
              have hk3 := hk2.later hz
              have Kf3 := Kf2.trans (Keep.of hz (fun b hb => Nat.lt_of_lt_of_le (hF b hb) Kf2.size))
              have p14 : (w2.alloc (.cells #[.int .i64 x] 3)).cell? ⟨w2.heap.size, 0, none⟩ = some (.int .i64 x) := by simp [go_sem]
              generalize hw : w2.alloc (.cells #[.int .i64 x] 3) = w3 at *
              clear hw hz
              refine hK.out _ _ ?_ (fun _ => ?_)
              · exact True.intro
              clear hK K
              refine wpAnyH_ready (rs := [12]) (by kernel_rfl) (by simp) ?_
              refine AllReadyH.cons rfl (fun K hK => ?_) AllReadyH.nil
              have cc := hk3.c1
              go_simp
              refine hK.out _ _ ?_ (fun _ => ?_)
              · exact True.intro
              clear hK K
              clear cc
              refine wpAnyH_ready (rs := [15]) (by kernel_rfl) (by simp) ?_
              refine AllReadyH.cons rfl (fun K hK => ?_) AllReadyH.nil
              refine step_append_at _ _ (some 47) 27 rfl rfl (by rfl) base 3 i3 (.int .i64 0) 1 8 Tryz.underlying27 hi3 hz30 hz31 hz32 rfl (by decide) (.slice ka ns.length ck) _ _ rfl (ok_at HLK.out hk3.ok) ⟨w2.heap.size, 0, none⟩ 1 1 [.int .i64 x] rfl rfl (one_cell0 p14) (fun u hu => by simp at hu; subst hu; rfl) (by unfold maxLen; omega) (by omega) (Nat.le_trans hbw Kf3.size) ?_
              intro v15 w4 ho15 hg15 hl15
              have hk4 := hk3.grow15 HLK.out ho15 hg15
              have Kf4 := Kf3.trans (Keep.grown hg15 (fun b hb => Nat.lt_of_lt_of_le (hF b hb) Kf3.size) (fun b e hb => hb.2.2.2 e))
              have hv15 : ∀ b, v15.ownBlock = some b → (Value.slice ka ns.length ck).ownBlock = some b ∨ w.heap.size ≤ b := fun b e => by
                rcases hl15 with h1 | h1
                · exact Or.inl (h1 ▸ e)
                · rw [h1] at e; injection e with e; exact Or.inr (by have := Kf3.size; omega)
              obtain ⟨ao15, cap15, rfl⟩ := own_shape ho15
              clear ho15 hg15 hl15 p14
              refine hK.out _ _ ?_ (fun _ => ?_)
              · exact True.intro
              clear hK K
              refine take_at 16 (some 48) (.pointer (some ⟨kb, 0, none⟩)) rfl rfl (by kernel_rfl) (by kernel_rfl) (by kernel_rfl) (fun _ _ _ h => h) (by rfl) (fun W hSw => by go_simp) True.intro ?_
              simp only [Act.put, List.setIfInBounds_toArray, List.set_cons_zero, List.set_cons_succ]
              refine take_at 17 (some 49) (.pointer (some ⟨kb, 0, none⟩)) rfl rfl (by kernel_rfl) (by kernel_rfl) (by kernel_rfl) (fun _ _ _ h => h) (by rfl) (fun W hSw => by go_simp) True.intro ?_
              simp only [Act.put, List.setIfInBounds_toArray, List.set_cons_zero, List.set_cons_succ]
              refine wpAnyH_ready (rs := [18]) (by kernel_rfl) (by simp) ?_
              refine AllReadyH.cons rfl (fun K hK => ?_) AllReadyH.nil
              have cc := hk4.c0
              have ff := hk4.f0
              go_simp
              clear cc ff
              have hkA := hk4.set0 (.slice ao8 (ns.length + 1) cap8)
              have KfA := Kf4.trans (Keep.grown (grown_set w4 kb 0 (.slice ao8 (ns.length + 1) cap8)) (fun b hb => Nat.lt_of_lt_of_le (hF b hb) Kf4.size) (fun b e hb => hb.2.1 (by injection e with e; exact e.symm)))
              generalize hw : w4.setCell ⟨kb, 0, none⟩ (.slice ao8 (ns.length + 1) cap8) = wA at *
              clear hw
              refine hK.out _ _ ?_ (fun _ => ?_)
              · exact True.intro
              clear hK K
              refine take_at 19 (some 50) (.pointer (some ⟨kb, 0, none⟩)) rfl rfl (by kernel_rfl) (by kernel_rfl) (by kernel_rfl) (fun _ _ _ h => h) (by rfl) (fun W hSw => by go_simp) True.intro ?_
              simp only [Act.put, List.setIfInBounds_toArray, List.set_cons_zero, List.set_cons_succ]
              refine take_at 20 (some 51) (.pointer (some ⟨kb, 1, none⟩)) rfl rfl (by kernel_rfl) (by kernel_rfl) (by kernel_rfl) (fun _ _ _ h => h) (by rfl) (fun W hSw => by go_simp) True.intro ?_
              simp only [Act.put, List.setIfInBounds_toArray, List.set_cons_zero, List.set_cons_succ]
              refine wpAnyH_ready (rs := [21]) (by kernel_rfl) (by simp) ?_
              refine AllReadyH.cons rfl (fun K hK => ?_) AllReadyH.nil
              have cc := hkA.c1
              have ff := hkA.f1
              go_simp
              clear cc ff
              have hkB := hkA.set1 (.slice ao15 (ns.length + 1) cap15)
              have KfB := KfA.trans (Keep.grown (grown_set wA kb 1 (.slice ao15 (ns.length + 1) cap15)) (fun b hb => Nat.lt_of_lt_of_le (hF b hb) KfA.size) (fun b e hb => hb.2.1 (by injection e with e; exact e.symm)))
              generalize hw : wA.setCell ⟨kb, 1, none⟩ (.slice ao15 (ns.length + 1) cap15) = wB at *
              clear hw
              refine hK.out _ _ ?_ (fun _ => ?_)
              · exact True.intro
              clear hK K
              refine wpAnyH_done (by kernel_rfl) ?_ _
              refine NoPanic.normal ?_
              go_wp2
              first | go_end0 | (refine bodyPost_ret (results_none rfl _ _ _) rfl ?_)
              exact ⟨rfl, _, _, by rw [HN'.out, HK'.out]; exact hkB, KfB, hv8, hv15⟩
          · have cc := hk1.c1
            go_simp
            refine hK.out _ _ ?_ (fun _ => ?_)
            · exact True.intro
            clear hK K
            clear cc
            refine wpAnyH_ready (rs := [8, 14]) (by kernel_rfl) (by simp) ?_
            refine AllReadyH.cons rfl (fun K hK => ?_) (AllReadyH.cons rfl (fun K hK => ?_) AllReadyH.nil)
            · refine step_append_at _ _ (some 40) 48 rfl rfl (by rfl) base 9 i9 (tx []) 1 16 Tryz.underlying48 hi9 hz90 hz91 hz92 rfl (by decide) (.slice na ns.length cn) _ _ rfl hk1.on ⟨w0.heap.size, 0, none⟩ 1 1 [tx s] rfl rfl (one_cell0 p7) (fun u hu => by simp at hu; subst hu; rfl) (by unfold maxLen; omega) (by omega) (Nat.le_trans hbw Kf1.size) ?_
              intro v8 w2 ho8 hg8 hl8
              have hk2 := hk1.grow8 ho8 hg8
              have Kf2 := Kf1.trans (Keep.grown hg8 (fun b hb => Nat.lt_of_lt_of_le (hF b hb) Kf1.size) (fun b e hb => hb.2.2.1 e))
              have hv8 : ∀ b, v8.ownBlock = some b → (Value.slice na ns.length cn).ownBlock = some b ∨ w.heap.size ≤ b := fun b e => by
                rcases hl8 with h1 | h1
                · exact Or.inl (h1 ▸ e)
                · rw [h1] at e; injection e with e; exact Or.inr (by have := Kf1.size; omega)
              obtain ⟨ao8, cap8, rfl⟩ := own_shape ho8
              clear ho8 hg8 hl8 p7
              refine hK.out _ _ ?_ (fun _ => ?_)
              · exact True.intro
              clear hK K
              refine wpAnyH_ready (rs := [14]) (by kernel_rfl) (by simp) ?_
              refine AllReadyH.cons rfl (fun K hK => ?_) AllReadyH.nil
              go_simp
              have hz := bal (Below.refl _ w2) (.cells #[.int .i64 x] 3)
              have hk3 := hk2.later hz
              have Kf3 := Kf2.trans (Keep.of hz (fun b hb => Nat.lt_of_lt_of_le (hF b hb) Kf2.size))
              have p14 : (w2.alloc (.cells #[.int .i64 x] 3)).cell? ⟨w2.heap.size, 0, none⟩ = some (.int .i64 x) := by simp [go_sem]
              generalize hw : w2.alloc (.cells #[.int .i64 x] 3) = w3 at *
              clear hw hz
              refine hK.out _ _ ?_ (fun _ => ?_)
              · exact True.intro
              clear hK K
              refine wpAnyH_ready (rs := [15]) (by kernel_rfl) (by simp) ?_
              refine AllReadyH.cons rfl (fun K hK => ?_) AllReadyH.nil
              refine step_append_at _ _ (some 47) 27 rfl rfl (by rfl) base 3 i3 (.int .i64 0) 1 8 Tryz.underlying27 hi3 hz30 hz31 hz32 rfl (by decide) (.slice ka ns.length ck) _ _ rfl (ok_at HLK.out hk3.ok) ⟨w2.heap.size, 0, none⟩ 1 1 [.int .i64 x] rfl rfl (one_cell0 p14) (fun u hu => by simp at hu; subst hu; rfl) (by unfold maxLen; omega) (by omega) (Nat.le_trans hbw Kf3.size) ?_
              intro v15 w4 ho15 hg15 hl15
              have hk4 := hk3.grow15 HLK.out ho15 hg15
              have Kf4 := Kf3.trans (Keep.grown hg15 (fun b hb => Nat.lt_of_lt_of_le (hF b hb) Kf3.size) (fun b e hb => hb.2.2.2 e))
              have hv15 : ∀ b, v15.ownBlock = some b → (Value.slice ka ns.length ck).ownBlock = some b ∨ w.heap.size ≤ b := fun b e => by
                rcases hl15 with h1 | h1
                · exact Or.inl (h1 ▸ e)
                · rw [h1] at e; injection e with e; exact Or.inr (by have := Kf3.size; omega)
              obtain ⟨ao15, cap15, rfl⟩ := own_shape ho15
              clear ho15 hg15 hl15 p14
              refine hK.out _ _ ?_ (fun _ => ?_)
              · exact True.intro
              clear hK K
              refine take_at 16 (some 48) (.pointer (some ⟨kb, 0, none⟩)) rfl rfl (by kernel_rfl) (by kernel_rfl) (by kernel_rfl) (fun _ _ _ h => h) (by rfl) (fun W hSw => by go_simp) True.intro ?_
              simp only [Act.put, List.setIfInBounds_toArray, List.set_cons_zero, List.set_cons_succ]
              refine take_at 17 (some 49) (.pointer (some ⟨kb, 0, none⟩)) rfl rfl (by kernel_rfl) (by kernel_rfl) (by kernel_rfl) (fun _ _ _ h => h) (by rfl) (fun W hSw => by go_simp) True.intro ?_
              simp only [Act.put, List.setIfInBounds_toArray, List.set_cons_zero, List.set_cons_succ]
              refine wpAnyH_ready (rs := [18]) (by kernel_rfl) (by simp) ?_
              refine AllReadyH.cons rfl (fun K hK => ?_) AllReadyH.nil
              have cc := hk4.c0
              have ff := hk4.f0
              go_simp
              clear cc ff
              have hkA := hk4.set0 (.slice ao8 (ns.length + 1) cap8)
              have KfA := Kf4.trans (Keep.grown (grown_set w4 kb 0 (.slice ao8 (ns.length + 1) cap8)) (fun b hb => Nat.lt_of_lt_of_le (hF b hb) Kf4.size) (fun b e hb => hb.2.1 (by injection e with e; exact e.symm)))
              generalize hw : w4.setCell ⟨kb, 0, none⟩ (.slice ao8 (ns.length + 1) cap8) = wA at *
              clear hw
              refine hK.out _ _ ?_ (fun _ => ?_)
              · exact True.intro
              clear hK K
              refine take_at 19 (some 50) (.pointer (some ⟨kb, 0, none⟩)) rfl rfl (by kernel_rfl) (by kernel_rfl) (by kernel_rfl) (fun _ _ _ h => h) (by rfl) (fun W hSw => by go_simp) True.intro ?_
              simp only [Act.put, List.setIfInBounds_toArray, List.set_cons_zero, List.set_cons_succ]
              refine take_at 20 (some 51) (.pointer (some ⟨kb, 1, none⟩)) rfl rfl (by kernel_rfl) (by kernel_rfl) (by kernel_rfl) (fun _ _ _ h => h) (by rfl) (fun W hSw => by go_simp) True.intro ?_
              simp only [Act.put, List.setIfInBounds_toArray, List.set_cons_zero, List.set_cons_succ]
              refine wpAnyH_ready (rs := [21]) (by kernel_rfl) (by simp) ?_
              refine AllReadyH.cons rfl (fun K hK => ?_) AllReadyH.nil
              have cc := hkA.c1
              have ff := hkA.f1
              go_simp
              clear cc ff
              have hkB := hkA.set1 (.slice ao15 (ns.length + 1) cap15)
              have KfB := KfA.trans (Keep.grown (grown_set wA kb 1 (.slice ao15 (ns.length + 1) cap15)) (fun b hb => Nat.lt_of_lt_of_le (hF b hb) KfA.size) (fun b e hb => hb.2.1 (by injection e with e; exact e.symm)))
              generalize hw : wA.setCell ⟨kb, 1, none⟩ (.slice ao15 (ns.length + 1) cap15) = wB at *
              clear hw
              refine hK.out _ _ ?_ (fun _ => ?_)
              · exact True.intro
              clear hK K
              refine wpAnyH_done (by kernel_rfl) ?_ _
              refine NoPanic.normal ?_
              go_wp2
              first | go_end0 | (refine bodyPost_ret (results_none rfl _ _ _) rfl ?_)
              exact ⟨rfl, _, _, by rw [HN'.out, HK'.out]; exact hkB, KfB, hv8, hv15⟩
            · go_simp
              have hz := bal (Below.refl _ w1) (.cells #[.int .i64 x] 3)
              have hk2 := hk1.later hz
              have Kf2 := Kf1.trans (Keep.of hz (fun b hb => Nat.lt_of_lt_of_le (hF b hb) Kf1.size))
              have p14 : (w1.alloc (.cells #[.int .i64 x] 3)).cell? ⟨w1.heap.size, 0, none⟩ = some (.int .i64 x) := by simp [go_sem]
              replace p7 := cell_later' p7 hz
              generalize hw : w1.alloc (.cells #[.int .i64 x] 3) = w2 at *
              clear hw hz
              refine hK.out _ _ ?_ (fun _ => ?_)
              · exact True.intro
              clear hK K
              refine wpAnyH_ready (rs := [8]) (by kernel_rfl) (by simp) ?_
              refine AllReadyH.cons rfl (fun K hK => ?_) AllReadyH.nil
              refine step_append_at _ _ (some 40) 48 rfl rfl (by rfl) base 9 i9 (tx []) 1 16 Tryz.underlying48 hi9 hz90 hz91 hz92 rfl (by decide) (.slice na ns.length cn) _ _ rfl hk2.on ⟨w0.heap.size, 0, none⟩ 1 1 [tx s] rfl rfl (one_cell0 p7) (fun u hu => by simp at hu; subst hu; rfl) (by unfold maxLen; omega) (by omega) (Nat.le_trans hbw Kf2.size) ?_
              intro v8 w3 ho8 hg8 hl8
              have hk3 := hk2.grow8 ho8 hg8
              have Kf3 := Kf2.trans (Keep.grown hg8 (fun b hb => Nat.lt_of_lt_of_le (hF b hb) Kf2.size) (fun b e hb => hb.2.2.1 e))
              have hv8 : ∀ b, v8.ownBlock = some b → (Value.slice na ns.length cn).ownBlock = some b ∨ w.heap.size ≤ b := fun b e => by
                rcases hl8 with h1 | h1
                · exact Or.inl (h1 ▸ e)
                · rw [h1] at e; injection e with e; exact Or.inr (by have := Kf2.size; omega)
              replace p14 := grown_cell hg8 p14 (fun e => by have := hnl _ e.symm; have := Kf1.size; omega)
              obtain ⟨ao8, cap8, rfl⟩ := own_shape ho8
              clear ho8 hg8 hl8 p7
              refine hK.out _ _ ?_ (fun _ => ?_)
              · exact True.intro
              clear hK K
              refine wpAnyH_ready (rs := [15]) (by kernel_rfl) (by simp) ?_
              refine AllReadyH.cons rfl (fun K hK => ?_) AllReadyH.nil
              refine step_append_at _ _ (some 47) 27 rfl rfl (by rfl) base 3 i3 (.int .i64 0) 1 8 Tryz.underlying27 hi3 hz30 hz31 hz32 rfl (by decide) (.slice ka ns.length ck) _ _ rfl (ok_at HLK.out hk3.ok) ⟨w1.heap.size, 0, none⟩ 1 1 [.int .i64 x] rfl rfl (one_cell0 p14) (fun u hu => by simp at hu; subst hu; rfl) (by unfold maxLen; omega) (by omega) (Nat.le_trans hbw Kf3.size) ?_
              intro v15 w4 ho15 hg15 hl15
              have hk4 := hk3.grow15 HLK.out ho15 hg15
              have Kf4 := Kf3.trans (Keep.grown hg15 (fun b hb => Nat.lt_of_lt_of_le (hF b hb) Kf3.size) (fun b e hb => hb.2.2.2 e))
              have hv15 : ∀ b, v15.ownBlock = some b → (Value.slice ka ns.length ck).ownBlock = some b ∨ w.heap.size ≤ b := fun b e => by
                rcases hl15 with h1 | h1
                · exact Or.inl (h1 ▸ e)
                · rw [h1] at e; injection e with e; exact Or.inr (by have := Kf3.size; omega)
              obtain ⟨ao15, cap15, rfl⟩ := own_shape ho15
              clear ho15 hg15 hl15 p14
              refine hK.out _ _ ?_ (fun _ => ?_)
              · exact True.intro
              clear hK K
              refine take_at 16 (some 48) (.pointer (some ⟨kb, 0, none⟩)) rfl rfl (by kernel_rfl) (by kernel_rfl) (by kernel_rfl) (fun _ _ _ h => h) (by rfl) (fun W hSw => by go_simp) True.intro ?_
              simp only [Act.put, List.setIfInBounds_toArray, List.set_cons_zero, List.set_cons_succ]
              refine take_at 17 (some 49) (.pointer (some ⟨kb, 0, none⟩)) rfl rfl (by kernel_rfl) (by kernel_rfl) (by kernel_rfl) (fun _ _ _ h => h) (by rfl) (fun W hSw => by go_simp) True.intro ?_
              simp only [Act.put, List.setIfInBounds_toArray, List.set_cons_zero, List.set_cons_succ]
              refine wpAnyH_ready (rs := [18]) (by kernel_rfl) (by simp) ?_
              refine AllReadyH.cons rfl (fun K hK => ?_) AllReadyH.nil
              have cc := hk4.c0
              have ff := hk4.f0
              go_simp
              clear cc ff
              have hkA := hk4.set0 (.slice ao8 (ns.length + 1) cap8)
              have KfA := Kf4.trans (Keep.grown (grown_set w4 kb 0 (.slice ao8 (ns.length + 1) cap8)) (fun b hb => Nat.lt_of_lt_of_le (hF b hb) Kf4.size) (fun b e hb => hb.2.1 (by injection e with e; exact e.symm)))
              generalize hw : w4.setCell ⟨kb, 0, none⟩ (.slice ao8 (ns.length + 1) cap8) = wA at *
              clear hw
              refine hK.out _ _ ?_ (fun _ => ?_)
              · exact True.intro
              clear hK K
              refine take_at 19 (some 50) (.pointer (some ⟨kb, 0, none⟩)) rfl rfl (by kernel_rfl) (by kernel_rfl) (by kernel_rfl) (fun _ _ _ h => h) (by rfl) (fun W hSw => by go_simp) True.intro ?_
              simp only [Act.put, List.setIfInBounds_toArray, List.set_cons_zero, List.set_cons_succ]
              refine take_at 20 (some 51) (.pointer (some ⟨kb, 1, none⟩)) rfl rfl (by kernel_rfl) (by kernel_rfl) (by kernel_rfl) (fun _ _ _ h => h) (by rfl) (fun W hSw => by go_simp) True.intro ?_
              simp only [Act.put, List.setIfInBounds_toArray, List.set_cons_zero, List.set_cons_succ]
              refine wpAnyH_ready (rs := [21]) (by kernel_rfl) (by simp) ?_
              refine AllReadyH.cons rfl (fun K hK => ?_) AllReadyH.nil
              have cc := hkA.c1
              have ff := hkA.f1
              go_simp
              clear cc ff
              have hkB := hkA.set1 (.slice ao15 (ns.length + 1) cap15)
              have KfB := KfA.trans (Keep.grown (grown_set wA kb 1 (.slice ao15 (ns.length + 1) cap15)) (fun b hb => Nat.lt_of_lt_of_le (hF b hb) KfA.size) (fun b e hb => hb.2.1 (by injection e with e; exact e.symm)))
              generalize hw : wA.setCell ⟨kb, 1, none⟩ (.slice ao15 (ns.length + 1) cap15) = wB at *
              clear hw
              refine hK.out _ _ ?_ (fun _ => ?_)
              · exact True.intro
              clear hK K
              refine wpAnyH_done (by kernel_rfl) ?_ _
              refine NoPanic.normal ?_
              go_wp2
              first | go_end0 | (refine bodyPost_ret (results_none rfl _ _ _) rfl ?_)
              exact ⟨rfl, _, _, by rw [HN'.out, HK'.out]; exact hkB, KfB, hv8, hv15⟩
          · go_simp
            have hz := bal (Below.refl _ w1) (.cells #[.int .i64 x] 3)
            have hk2 := hk1.later hz
            have Kf2 := Kf1.trans (Keep.of hz (fun b hb => Nat.lt_of_lt_of_le (hF b hb) Kf1.size))
            have p14 : (w1.alloc (.cells #[.int .i64 x] 3)).cell? ⟨w1.heap.size, 0, none⟩ = some (.int .i64 x) := by simp [go_sem]
            replace p7 := cell_later' p7 hz
            generalize hw : w1.alloc (.cells #[.int .i64 x] 3) = w2 at *
            clear hw hz
            refine hK.out _ _ ?_ (fun _ => ?_)
            · exact True.intro
            clear hK K
            refine wpAnyH_ready (rs := [8, 12]) (by kernel_rfl) (by simp) ?_
            refine AllReadyH.cons rfl (fun K hK => ?_) (AllReadyH.cons rfl (fun K hK => ?_) AllReadyH.nil)
            · refine step_append_at _ _ (some 40) 48 rfl rfl (by rfl) base 9 i9 (tx []) 1 16 Tryz.underlying48 hi9 hz90 hz91 hz92 rfl (by decide) (.slice na ns.length cn) _ _ rfl hk2.on ⟨w0.heap.size, 0, none⟩ 1 1 [tx s] rfl rfl (one_cell0 p7) (fun u hu => by simp at hu; subst hu; rfl) (by unfold maxLen; omega) (by omega) (Nat.le_trans hbw Kf2.size) ?_
              intro v8 w3 ho8 hg8 hl8
              have hk3 := hk2.grow8 ho8 hg8
              have Kf3 := Kf2.trans (Keep.grown hg8 (fun b hb => Nat.lt_of_lt_of_le (hF b hb) Kf2.size) (fun b e hb => hb.2.2.1 e))
              have hv8 : ∀ b, v8.ownBlock = some b → (Value.slice na ns.length cn).ownBlock = some b ∨ w.heap.size ≤ b := fun b e => by
                rcases hl8 with h1 | h1
                · exact Or.inl (h1 ▸ e)
                · rw [h1] at e; injection e with e; exact Or.inr (by have := Kf2.size; omega)
              replace p14 := grown_cell hg8 p14 (fun e => by have := hnl _ e.symm; have := Kf1.size; omega)
              obtain ⟨ao8, cap8, rfl⟩ := own_shape ho8
              clear ho8 hg8 hl8 p7
              refine hK.out _ _ ?_ (fun _ => ?_)
              · exact True.intro
              clear hK K
              refine wpAnyH_ready (rs := [12]) (by kernel_rfl) (by simp) ?_
              refine AllReadyH.cons rfl (fun K hK => ?_) AllReadyH.nil
              have cc := hk3.c1
              go_simp
              refine hK.out _ _ ?_ (fun _ => ?_)
              · exact True.intro
              clear hK K
              clear cc
              refine wpAnyH_ready (rs := [15]) (by kernel_rfl) (by simp) ?_
              refine AllReadyH.cons rfl (fun K hK => ?_) AllReadyH.nil
              refine step_append_at _ _ (some 47) 27 rfl rfl (by rfl) base 3 i3 (.int .i64 0) 1 8 Tryz.underlying27 hi3 hz30 hz31 hz32 rfl (by decide) (.slice ka ns.length ck) _ _ rfl (ok_at HLK.out hk3.ok) ⟨w1.heap.size, 0, none⟩ 1 1 [.int .i64 x] rfl rfl (one_cell0 p14) (fun u hu => by simp at hu; subst hu; rfl) (by unfold maxLen; omega) (by omega) (Nat.le_trans hbw Kf3.size) ?_
              intro v15 w4 ho15 hg15 hl15
              have hk4 := hk3.grow15 HLK.out ho15 hg15
              have Kf4 := Kf3.trans (Keep.grown hg15 (fun b hb => Nat.lt_of_lt_of_le (hF b hb) Kf3.size) (fun b e hb => hb.2.2.2 e))
              have hv15 : ∀ b, v15.ownBlock = some b → (Value.slice ka ns.length ck).ownBlock = some b ∨ w.heap.size ≤ b := fun b e => by
                rcases hl15 with h1 | h1
                · exact Or.inl (h1 ▸ e)
                · rw [h1] at e; injection e with e; exact Or.inr (by have := Kf3.size; omega)
              obtain ⟨ao15, cap15, rfl⟩ := own_shape ho15
              clear ho15 hg15 hl15 p14
              refine hK.out _ _ ?_ (fun _ => ?_)
              · exact True.intro
              clear hK K
              refine take_at 16 (some 48) (.pointer (some ⟨kb, 0, none⟩)) rfl rfl (by kernel_rfl) (by kernel_rfl) (by kernel_rfl) (fun _ _ _ h => h) (by rfl) (fun W hSw => by go_simp) True.intro ?_
              simp only [Act.put, List.setIfInBounds_toArray, List.set_cons_zero, List.set_cons_succ]
              refine take_at 17 (some 49) (.pointer (some ⟨kb, 0, none⟩)) rfl rfl (by kernel_rfl) (by kernel_rfl) (by kernel_rfl) (fun _ _ _ h => h) (by rfl) (fun W hSw => by go_simp) True.intro ?_
              simp only [Act.put, List.setIfInBounds_toArray, List.set_cons_zero, List.set_cons_succ]
              refine wpAnyH_ready (rs := [18]) (by kernel_rfl) (by simp) ?_
              refine AllReadyH.cons rfl (fun K hK => ?_) AllReadyH.nil
              have cc := hk4.c0
              have ff := hk4.f0
              go_simp
              clear cc ff
              have hkA := hk4.set0 (.slice ao8 (ns.length + 1) cap8)
              have KfA := Kf4.trans (Keep.grown (grown_set w4 kb 0 (.slice ao8 (ns.length + 1) cap8)) (fun b hb => Nat.lt_of_lt_of_le (hF b hb) Kf4.size) (fun b e hb => hb.2.1 (by injection e with e; exact e.symm)))
              generalize hw : w4.setCell ⟨kb, 0, none⟩ (.slice ao8 (ns.length + 1) cap8) = wA at *
              clear hw
              refine hK.out _ _ ?_ (fun _ => ?_)
              · exact True.intro
              clear hK K
              refine take_at 19 (some 50) (.pointer (some ⟨kb, 0, none⟩)) rfl rfl (by kernel_rfl) (by kernel_rfl) (by kernel_rfl) (fun _ _ _ h => h) (by rfl) (fun W hSw => by go_simp) True.intro ?_
              simp only [Act.put, List.setIfInBounds_toArray, List.set_cons_zero, List.set_cons_succ]
              refine take_at 20 (some 51) (.pointer (some ⟨kb, 1, none⟩)) rfl rfl (by kernel_rfl) (by kernel_rfl) (by kernel_rfl) (fun _ _ _ h => h) (by rfl) (fun W hSw => by go_simp) True.intro ?_
              simp only [Act.put, List.setIfInBounds_toArray, List.set_cons_zero, List.set_cons_succ]
              refine wpAnyH_ready (rs := [21]) (by kernel_rfl) (by simp) ?_
              refine AllReadyH.cons rfl (fun K hK => ?_) AllReadyH.nil
              have cc := hkA.c1
              have ff := hkA.f1
              go_simp
              clear cc ff
              have hkB := hkA.set1 (.slice ao15 (ns.length + 1) cap15)
              have KfB := KfA.trans (Keep.grown (grown_set wA kb 1 (.slice ao15 (ns.length + 1) cap15)) (fun b hb => Nat.lt_of_lt_of_le (hF b hb) KfA.size) (fun b e hb => hb.2.1 (by injection e with e; exact e.symm)))
              generalize hw : wA.setCell ⟨kb, 1, none⟩ (.slice ao15 (ns.length + 1) cap15) = wB at *
              clear hw
              refine hK.out _ _ ?_ (fun _ => ?_)
              · exact True.intro
              clear hK K
              refine wpAnyH_done (by kernel_rfl) ?_ _
              refine NoPanic.normal ?_
              go_wp2
              first | go_end0 | (refine bodyPost_ret (results_none rfl _ _ _) rfl ?_)
              exact ⟨rfl, _, _, by rw [HN'.out, HK'.out]; exact hkB, KfB, hv8, hv15⟩
            · have cc := hk2.c1
              go_simp
              refine hK.out _ _ ?_ (fun _ => ?_)
              · exact True.intro
              clear hK K
              clear cc
              refine wpAnyH_ready (rs := [8]) (by kernel_rfl) (by simp) ?_
              refine AllReadyH.cons rfl (fun K hK => ?_) AllReadyH.nil
              refine step_append_at _ _ (some 40) 48 rfl rfl (by rfl) base 9 i9 (tx []) 1 16 Tryz.underlying48 hi9 hz90 hz91 hz92 rfl (by decide) (.slice na ns.length cn) _ _ rfl hk2.on ⟨w0.heap.size, 0, none⟩ 1 1 [tx s] rfl rfl (one_cell0 p7) (fun u hu => by simp at hu; subst hu; rfl) (by unfold maxLen; omega) (by omega) (Nat.le_trans hbw Kf2.size) ?_
              intro v8 w3 ho8 hg8 hl8
              have hk3 := hk2.grow8 ho8 hg8
              have Kf3 := Kf2.trans (Keep.grown hg8 (fun b hb => Nat.lt_of_lt_of_le (hF b hb) Kf2.size) (fun b e hb => hb.2.2.1 e))
              have hv8 : ∀ b, v8.ownBlock = some b → (Value.slice na ns.length cn).ownBlock = some b ∨ w.heap.size ≤ b := fun b e => by
                rcases hl8 with h1 | h1
                · exact Or.inl (h1 ▸ e)
                · rw [h1] at e; injection e with e; exact Or.inr (by have := Kf2.size; omega)
              replace p14 := grown_cell hg8 p14 (fun e => by have := hnl _ e.symm; have := Kf1.size; omega)
              obtain ⟨ao8, cap8, rfl⟩ := own_shape ho8
              clear ho8 hg8 hl8 p7
              refine hK.out _ _ ?_ (fun _ => ?_)
              · exact True.intro
              clear hK K
              refine wpAnyH_ready (rs := [15]) (by kernel_rfl) (by simp) ?_
              refine AllReadyH.cons rfl (fun K hK => ?_) AllReadyH.nil
              refine step_append_at _ _ (some 47) 27 rfl rfl (by rfl) base 3 i3 (.int .i64 0) 1 8 Tryz.underlying27 hi3 hz30 hz31 hz32 rfl (by decide) (.slice ka ns.length ck) _ _ rfl (ok_at HLK.out hk3.ok) ⟨w1.heap.size, 0, none⟩ 1 1 [.int .i64 x] rfl rfl (one_cell0 p14) (fun u hu => by simp at hu; subst hu; rfl) (by unfold maxLen; omega) (by omega) (Nat.le_trans hbw Kf3.size) ?_
              intro v15 w4 ho15 hg15 hl15
              have hk4 := hk3.grow15 HLK.out ho15 hg15
              have Kf4 := Kf3.trans (Keep.grown hg15 (fun b hb => Nat.lt_of_lt_of_le (hF b hb) Kf3.size) (fun b e hb => hb.2.2.2 e))
              have hv15 : ∀ b, v15.ownBlock = some b → (Value.slice ka ns.length ck).ownBlock = some b ∨ w.heap.size ≤ b := fun b e => by
                rcases hl15 with h1 | h1
                · exact Or.inl (h1 ▸ e)
                · rw [h1] at e; injection e with e; exact Or.inr (by have := Kf3.size; omega)
              obtain ⟨ao15, cap15, rfl⟩ := own_shape ho15
              clear ho15 hg15 hl15 p14
              refine hK.out _ _ ?_ (fun _ => ?_)
              · exact True.intro
              clear hK K
              refine take_at 16 (some 48) (.pointer (some ⟨kb, 0, none⟩)) rfl rfl (by kernel_rfl) (by kernel_rfl) (by kernel_rfl) (fun _ _ _ h => h) (by rfl) (fun W hSw => by go_simp) True.intro ?_
              simp only [Act.put, List.setIfInBounds_toArray, List.set_cons_zero, List.set_cons_succ]
              refine take_at 17 (some 49) (.pointer (some ⟨kb, 0, none⟩)) rfl rfl (by kernel_rfl) (by kernel_rfl) (by kernel_rfl) (fun _ _ _ h => h) (by rfl) (fun W hSw => by go_simp) True.intro ?_
              simp only [Act.put, List.setIfInBounds_toArray, List.set_cons_zero, List.set_cons_succ]
              refine wpAnyH_ready (rs := [18]) (by kernel_rfl) (by simp) ?_
              refine AllReadyH.cons rfl (fun K hK => ?_) AllReadyH.nil
              have cc := hk4.c0
              have ff := hk4.f0
              go_simp
              clear cc ff
              have hkA := hk4.set0 (.slice ao8 (ns.length + 1) cap8)
              have KfA := Kf4.trans (Keep.grown (grown_set w4 kb 0 (.slice ao8 (ns.length + 1) cap8)) (fun b hb => Nat.lt_of_lt_of_le (hF b hb) Kf4.size) (fun b e hb => hb.2.1 (by injection e with e; exact e.symm)))
              generalize hw : w4.setCell ⟨kb, 0, none⟩ (.slice ao8 (ns.length + 1) cap8) = wA at *
              clear hw
              refine hK.out _ _ ?_ (fun _ => ?_)
              · exact True.intro
              clear hK K
              refine take_at 19 (some 50) (.pointer (some ⟨kb, 0, none⟩)) rfl rfl (by kernel_rfl) (by kernel_rfl) (by kernel_rfl) (fun _ _ _ h => h) (by rfl) (fun W hSw => by go_simp) True.intro ?_
              simp only [Act.put, List.setIfInBounds_toArray, List.set_cons_zero, List.set_cons_succ]
              refine take_at 20 (some 51) (.pointer (some ⟨kb, 1, none⟩)) rfl rfl (by kernel_rfl) (by kernel_rfl) (by kernel_rfl) (fun _ _ _ h => h) (by rfl) (fun W hSw => by go_simp) True.intro ?_
              simp only [Act.put, List.setIfInBounds_toArray, List.set_cons_zero, List.set_cons_succ]
              refine wpAnyH_ready (rs := [21]) (by kernel_rfl) (by simp) ?_
              refine AllReadyH.cons rfl (fun K hK => ?_) AllReadyH.nil
              have cc := hkA.c1
              have ff := hkA.f1
              go_simp
              clear cc ff
              have hkB := hkA.set1 (.slice ao15 (ns.length + 1) cap15)
              have KfB := KfA.trans (Keep.grown (grown_set wA kb 1 (.slice ao15 (ns.length + 1) cap15)) (fun b hb => Nat.lt_of_lt_of_le (hF b hb) KfA.size) (fun b e hb => hb.2.1 (by injection e with e; exact e.symm)))
              generalize hw : wA.setCell ⟨kb, 1, none⟩ (.slice ao15 (ns.length + 1) cap15) = wB at *
              clear hw
              refine hK.out _ _ ?_ (fun _ => ?_)
              · exact True.intro
              clear hK K
              refine wpAnyH_done (by kernel_rfl) ?_ _
              refine NoPanic.normal ?_
              go_wp2
              first | go_end0 | (refine bodyPost_ret (results_none rfl _ _ _) rfl ?_)
              exact ⟨rfl, _, _, by rw [HN'.out, HK'.out]; exact hkB, KfB, hv8, hv15⟩
        · have cc := hk0.c1
          go_simp
          refine hK.out _ _ ?_ (fun _ => ?_)
          · exact True.intro
          clear hK K
          clear cc
          refine wpAnyH_ready (rs := [7, 14]) (by kernel_rfl) (by simp) ?_
          refine AllReadyH.cons rfl (fun K hK => ?_) (AllReadyH.cons rfl (fun K hK => ?_) AllReadyH.nil)
          · go_simp
            have hz := bal (Below.refl _ w0) (.cells #[tx s] 9)
            have hk1 := hk0.later hz
            have Kf1 := Kf0.trans (Keep.of hz (fun b hb => Nat.lt_of_lt_of_le (hF b hb) Kf0.size))
            have p7 : (w0.alloc (.cells #[tx s] 9)).cell? ⟨w0.heap.size, 0, none⟩ = some (tx s) := by simp [go_sem]
            generalize hw : w0.alloc (.cells #[tx s] 9) = w1 at *
            clear hw hz
            refine hK.out _ _ ?_ (fun _ => ?_)
            · exact True.intro
            clear hK K
            refine wpAnyH_ready (rs := [8, 14]) (by kernel_rfl) (by simp) ?_
            refine AllReadyH.cons rfl (fun K hK => ?_) (AllReadyH.cons rfl (fun K hK => ?_) AllReadyH.nil)
            · refine step_append_at _ _ (some 40) 48 rfl rfl (by rfl) base 9 i9 (tx []) 1 16 Tryz.underlying48 hi9 hz90 hz91 hz92 rfl (by decide) (.slice na ns.length cn) _ _ rfl hk1.on ⟨w0.heap.size, 0, none⟩ 1 1 [tx s] rfl rfl (one_cell0 p7) (fun u hu => by simp at hu; subst hu; rfl) (by unfold maxLen; omega) (by omega) (Nat.le_trans hbw Kf1.size) ?_
              intro v8 w2 ho8 hg8 hl8
              have hk2 := hk1.grow8 ho8 hg8
              have Kf2 := Kf1.trans (Keep.grown hg8 (fun b hb => Nat.lt_of_lt_of_le (hF b hb) Kf1.size) (fun b e hb => hb.2.2.1 e))
              have hv8 : ∀ b, v8.ownBlock = some b → (Value.slice na ns.length cn).ownBlock = some b ∨ w.heap.size ≤ b := fun b e => by
                rcases hl8 with h1 | h1
                · exact Or.inl (h1 ▸ e)
                · rw [h1] at e; injection e with e; exact Or.inr (by have := Kf1.size; omega)
              obtain ⟨ao8, cap8, rfl⟩ := own_shape ho8
              clear ho8 hg8 hl8 p7
              refine hK.out _ _ ?_ (fun _ => ?_)
              · exact True.intro
              clear hK K
              refine wpAnyH_ready (rs := [14]) (by kernel_rfl) (by simp) ?_
              refine AllReadyH.cons rfl (fun K hK => ?_) AllReadyH.nil
              go_simp
              have hz := bal (Below.refl _ w2) (.cells #[.int .i64 x] 3)
              have hk3 := hk2.later hz
              have Kf3 := Kf2.trans (Keep.of hz (fun b hb => Nat.lt_of_lt_of_le (hF b hb) Kf2.size))
              have p14 : (w2.alloc (.cells #[.int .i64 x] 3)).cell? ⟨w2.heap.size, 0, none⟩ = some (.int .i64 x) := by simp [go_sem]
              generalize hw : w2.alloc (.cells #[.int .i64 x] 3) = w3 at *
              clear hw hz
              refine hK.out _ _ ?_ (fun _ => ?_)
              · exact True.intro
              clear hK K
              refine wpAnyH_ready (rs := [15]) (by kernel_rfl) (by simp) ?_
              refine AllReadyH.cons rfl (fun K hK => ?_) AllReadyH.nil
              refine step_append_at _ _ (some 47) 27 rfl rfl (by rfl) base 3 i3 (.int .i64 0) 1 8 Tryz.underlying27 hi3 hz30 hz31 hz32 rfl (by decide) (.slice ka ns.length ck) _ _ rfl (ok_at HLK.out hk3.ok) ⟨w2.heap.size, 0, none⟩ 1 1 [.int .i64 x] rfl rfl (one_cell0 p14) (fun u hu => by simp at hu; subst hu; rfl) (by unfold maxLen; omega) (by omega) (Nat.le_trans hbw Kf3.size) ?_
              intro v15 w4 ho15 hg15 hl15
              have hk4 := hk3.grow15 HLK.out ho15 hg15
              have Kf4 := Kf3.trans (Keep.grown hg15 (fun b hb => Nat.lt_of_lt_of_le (hF b hb) Kf3.size) (fun b e hb => hb.2.2.2 e))
              have hv15 : ∀ b, v15.ownBlock = some b → (Value.slice ka ns.length ck).ownBlock = some b ∨ w.heap.size ≤ b := fun b e => by
                rcases hl15 with h1 | h1
                · exact Or.inl (h1 ▸ e)
                · rw [h1] at e; injection e with e; exact Or.inr (by have := Kf3.size; omega)
              obtain ⟨ao15, cap15, rfl⟩ := own_shape ho15
              clear ho15 hg15 hl15 p14
              refine hK.out _ _ ?_ (fun _ => ?_)
              · exact True.intro
              clear hK K
              refine take_at 16 (some 48) (.pointer (some ⟨kb, 0, none⟩)) rfl rfl (by kernel_rfl) (by kernel_rfl) (by kernel_rfl) (fun _ _ _ h => h) (by rfl) (fun W hSw => by go_simp) True.intro ?_
              simp only [Act.put, List.setIfInBounds_toArray, List.set_cons_zero, List.set_cons_succ]
              refine take_at 17 (some 49) (.pointer (some ⟨kb, 0, none⟩)) rfl rfl (by kernel_rfl) (by kernel_rfl) (by kernel_rfl) (fun _ _ _ h => h) (by rfl) (fun W hSw => by go_simp) True.intro ?_
              simp only [Act.put, List.setIfInBounds_toArray, List.set_cons_zero, List.set_cons_succ]
              refine wpAnyH_ready (rs := [18]) (by kernel_rfl) (by simp) ?_
              refine AllReadyH.cons rfl (fun K hK => ?_) AllReadyH.nil
              have cc := hk4.c0
              have ff := hk4.f0
              go_simp
              clear cc ff
              have hkA := hk4.set0 (.slice ao8 (ns.length + 1) cap8)
              have KfA := Kf4.trans (Keep.grown (grown_set w4 kb 0 (.slice ao8 (ns.length + 1) cap8)) (fun b hb => Nat.lt_of_lt_of_le (hF b hb) Kf4.size) (fun b e hb => hb.2.1 (by injection e with e; exact e.symm)))
              generalize hw : w4.setCell ⟨kb, 0, none⟩ (.slice ao8 (ns.length + 1) cap8) = wA at *
              clear hw
              refine hK.out _ _ ?_ (fun _ => ?_)
              · exact True.intro
              clear hK K
              refine take_at 19 (some 50) (.pointer (some ⟨kb, 0, none⟩)) rfl rfl (by kernel_rfl) (by kernel_rfl) (by kernel_rfl) (fun _ _ _ h => h) (by rfl) (fun W hSw => by go_simp) True.intro ?_
              simp only [Act.put, List.setIfInBounds_toArray, List.set_cons_zero, List.set_cons_succ]
              refine take_at 20 (some 51) (.pointer (some ⟨kb, 1, none⟩)) rfl rfl (by kernel_rfl) (by kernel_rfl) (by kernel_rfl) (fun _ _ _ h => h) (by rfl) (fun W hSw => by go_simp) True.intro ?_
              simp only [Act.put, List.setIfInBounds_toArray, List.set_cons_zero, List.set_cons_succ]
              refine wpAnyH_ready (rs := [21]) (by kernel_rfl) (by simp) ?_
              refine AllReadyH.cons rfl (fun K hK => ?_) AllReadyH.nil
              have cc := hkA.c1
              have ff := hkA.f1
              go_simp
              clear cc ff
              have hkB := hkA.set1 (.slice ao15 (ns.length + 1) cap15)
              have KfB := KfA.trans (Keep.grown (grown_set wA kb 1 (.slice ao15 (ns.length + 1) cap15)) (fun b hb => Nat.lt_of_lt_of_le (hF b hb) KfA.size) (fun b e hb => hb.2.1 (by injection e with e; exact e.symm)))
              generalize hw : wA.setCell ⟨kb, 1, none⟩ (.slice ao15 (ns.length + 1) cap15) = wB at *
              clear hw
              refine hK.out _ _ ?_ (fun _ => ?_)
              · exact True.intro
              clear hK K
              refine wpAnyH_done (by kernel_rfl) ?_ _
              refine NoPanic.normal ?_
              go_wp2
              first | go_end0 | (refine bodyPost_ret (results_none rfl _ _ _) rfl ?_)
              exact ⟨rfl, _, _, by rw [HN'.out, HK'.out]; exact hkB, KfB, hv8, hv15⟩
            · go_simp
              have hz := bal (Below.refl _ w1) (.cells #[.int .i64 x] 3)
              have hk2 := hk1.later hz
              have Kf2 := Kf1.trans (Keep.of hz (fun b hb => Nat.lt_of_lt_of_le (hF b hb) Kf1.size))
              have p14 : (w1.alloc (.cells #[.int .i64 x] 3)).cell? ⟨w1.heap.size, 0, none⟩ = some (.int .i64 x) := by simp [go_sem]
              replace p7 := cell_later' p7 hz
              generalize hw : w1.alloc (.cells #[.int .i64 x] 3) = w2 at *
              clear hw hz
              refine hK.out _ _ ?_ (fun _ => ?_)
              · exact True.intro
              clear hK K
              refine wpAnyH_ready (rs := [8]) (by kernel_rfl) (by simp) ?_
              refine AllReadyH.cons rfl (fun K hK => ?_) AllReadyH.nil
              refine step_append_at _ _ (some 40) 48 rfl rfl (by rfl) base 9 i9 (tx []) 1 16 Tryz.underlying48 hi9 hz90 hz91 hz92 rfl (by decide) (.slice na ns.length cn) _ _ rfl hk2.on ⟨w0.heap.size, 0, none⟩ 1 1 [tx s] rfl rfl (one_cell0 p7) (fun u hu => by simp at hu; subst hu; rfl) (by unfold maxLen; omega) (by omega) (Nat.le_trans hbw Kf2.size) ?_
              intro v8 w3 ho8 hg8 hl8
              have hk3 := hk2.grow8 ho8 hg8
              have Kf3 := Kf2.trans (Keep.grown hg8 (fun b hb => Nat.lt_of_lt_of_le (hF b hb) Kf2.size) (fun b e hb => hb.2.2.1 e))
              have hv8 : ∀ b, v8.ownBlock = some b → (Value.slice na ns.length cn).ownBlock = some b ∨ w.heap.size ≤ b := fun b e => by
                rcases hl8 with h1 | h1
                · exact Or.inl (h1 ▸ e)
                · rw [h1] at e; injection e with e; exact Or.inr (by have := Kf2.size; omega)
              replace p14 := grown_cell hg8 p14 (fun e => by have := hnl _ e.symm; have := Kf1.size; omega)
              obtain ⟨ao8, cap8, rfl⟩ := own_shape ho8
              clear ho8 hg8 hl8 p7
              refine hK.out _ _ ?_ (fun _ => ?_)
              · exact True.intro
              clear hK K
              refine wpAnyH_ready (rs := [15]) (by kernel_rfl) (by simp) ?_
              refine AllReadyH.cons rfl (fun K hK => ?_) AllReadyH.nil
              refine step_append_at _ _ (some 47) 27 rfl rfl (by rfl) base 3 i3 (.int .i64 0) 1 8 Tryz.underlying27 hi3 hz30 hz31 hz32 rfl (by decide) (.slice ka ns.length ck) _ _ rfl (ok_at HLK.out hk3.ok) ⟨w1.heap.size, 0, none⟩ 1 1 [.int .i64 x] rfl rfl (one_cell0 p14) (fun u hu => by simp at hu; subst hu; rfl) (by unfold maxLen; omega) (by omega) (Nat.le_trans hbw Kf3.size) ?_
              intro v15 w4 ho15 hg15 hl15
              have hk4 := hk3.grow15 HLK.out ho15 hg15
              have Kf4 := Kf3.trans (Keep.grown hg15 (fun b hb => Nat.lt_of_lt_of_le (hF b hb) Kf3.size) (fun b e hb => hb.2.2.2 e))
              have hv15 : ∀ b, v15.ownBlock = some b → (Value.slice ka ns.length ck).ownBlock = some b ∨ w.heap.size ≤ b := fun b e => by
                rcases hl15 with h1 | h1
                · exact Or.inl (h1 ▸ e)
                · rw [h1] at e; injection e with e; exact Or.inr (by have := Kf3.size; omega)
              obtain ⟨ao15, cap15, rfl⟩ := own_shape ho15
              clear ho15 hg15 hl15 p14
              refine hK.out _ _ ?_ (fun _ => ?_)
              · exact True.intro
              clear hK K
              refine take_at 16 (some 48) (.pointer (some ⟨kb, 0, none⟩)) rfl rfl (by kernel_rfl) (by kernel_rfl) (by kernel_rfl) (fun _ _ _ h => h) (by rfl) (fun W hSw => by go_simp) True.intro ?_
              simp only [Act.put, List.setIfInBounds_toArray, List.set_cons_zero, List.set_cons_succ]
              refine take_at 17 (some 49) (.pointer (some ⟨kb, 0, none⟩)) rfl rfl (by kernel_rfl) (by kernel_rfl) (by kernel_rfl) (fun _ _ _ h => h) (by rfl) (fun W hSw => by go_simp) True.intro ?_
              simp only [Act.put, List.setIfInBounds_toArray, List.set_cons_zero, List.set_cons_succ]
              refine wpAnyH_ready (rs := [18]) (by kernel_rfl) (by simp) ?_
              refine AllReadyH.cons rfl (fun K hK => ?_) AllReadyH.nil
              have cc := hk4.c0
              have ff := hk4.f0
              go_simp
              clear cc ff
              have hkA := hk4.set0 (.slice ao8 (ns.length + 1) cap8)
              have KfA := Kf4.trans (Keep.grown (grown_set w4 kb 0 (.slice ao8 (ns.length + 1) cap8)) (fun b hb => Nat.lt_of_lt_of_le (hF b hb) Kf4.size) (fun b e hb => hb.2.1 (by injection e with e; exact e.symm)))
              generalize hw : w4.setCell ⟨kb, 0, none⟩ (.slice ao8 (ns.length + 1) cap8) = wA at *
              clear hw
              refine hK.out _ _ ?_ (fun _ => ?_)
              · exact True.intro
              clear hK K
              refine take_at 19 (some 50) (.pointer (some ⟨kb, 0, none⟩)) rfl rfl (by kernel_rfl) (by kernel_rfl) (by kernel_rfl) (fun _ _ _ h => h) (by rfl) (fun W hSw => by go_simp) True.intro ?_
              simp only [Act.put, List.setIfInBounds_toArray, List.set_cons_zero, List.set_cons_succ]
              refine take_at 20 (some 51) (.pointer (some ⟨kb, 1, none⟩)) rfl rfl (by kernel_rfl) (by kernel_rfl) (by kernel_rfl) (fun _ _ _ h => h) (by rfl) (fun W hSw => by go_simp) True.intro ?_
              simp only [Act.put, List.setIfInBounds_toArray, List.set_cons_zero, List.set_cons_succ]
              refine wpAnyH_ready (rs := [21]) (by kernel_rfl) (by simp) ?_
              refine AllReadyH.cons rfl (fun K hK => ?_) AllReadyH.nil
              have cc := hkA.c1
              have ff := hkA.f1
              go_simp
              clear cc ff
              have hkB := hkA.set1 (.slice ao15 (ns.length + 1) cap15)
              have KfB := KfA.trans (Keep.grown (grown_set wA kb 1 (.slice ao15 (ns.length + 1) cap15)) (fun b hb => Nat.lt_of_lt_of_le (hF b hb) KfA.size) (fun b e hb => hb.2.1 (by injection e with e; exact e.symm)))
              generalize hw : wA.setCell ⟨kb, 1, none⟩ (.slice ao15 (ns.length + 1) cap15) = wB at *
              clear hw
              refine hK.out _ _ ?_ (fun _ => ?_)
              · exact True.intro
              clear hK K
              refine wpAnyH_done (by kernel_rfl) ?_ _
              refine NoPanic.normal ?_
              go_wp2
              first | go_end0 | (refine bodyPost_ret (results_none rfl _ _ _) rfl ?_)
              exact ⟨rfl, _, _, by rw [HN'.out, HK'.out]; exact hkB, KfB, hv8, hv15⟩
          · go_simp
            have hz := bal (Below.refl _ w0) (.cells #[.int .i64 x] 3)
            have hk1 := hk0.later hz
            have Kf1 := Kf0.trans (Keep.of hz (fun b hb => Nat.lt_of_lt_of_le (hF b hb) Kf0.size))
            have p14 : (w0.alloc (.cells #[.int .i64 x] 3)).cell? ⟨w0.heap.size, 0, none⟩ = some (.int .i64 x) := by simp [go_sem]
            generalize hw : w0.alloc (.cells #[.int .i64 x] 3) = w1 at *
            clear hw hz
            refine hK.out _ _ ?_ (fun _ => ?_)
            · exact True.intro
            clear hK K
            refine wpAnyH_ready (rs := [7]) (by kernel_rfl) (by simp) ?_
            refine AllReadyH.cons rfl (fun K hK => ?_) AllReadyH.nil
            go_simp
            have hz := bal (Below.refl _ w1) (.cells #[tx s] 9)
            have hk2 := hk1.later hz
            have Kf2 := Kf1.trans (Keep.of hz (fun b hb => Nat.lt_of_lt_of_le (hF b hb) Kf1.size))
            have p7 : (w1.alloc (.cells #[tx s] 9)).cell? ⟨w1.heap.size, 0, none⟩ = some (tx s) := by simp [go_sem]
            replace p14 := cell_later' p14 hz
            generalize hw : w1.alloc (.cells #[tx s] 9) = w2 at *
            clear hw hz
            refine hK.out _ _ ?_ (fun _ => ?_)
            · exact True.intro
            clear hK K
            refine wpAnyH_ready (rs := [8]) (by kernel_rfl) (by simp) ?_
            refine AllReadyH.cons rfl (fun K hK => ?_) AllReadyH.nil
            refine step_append_at _ _ (some 40) 48 rfl rfl (by rfl) base 9 i9 (tx []) 1 16 Tryz.underlying48 hi9 hz90 hz91 hz92 rfl (by decide) (.slice na ns.length cn) _ _ rfl hk2.on ⟨w1.heap.size, 0, none⟩ 1 1 [tx s] rfl rfl (one_cell0 p7) (fun u hu => by simp at hu; subst hu; rfl) (by unfold maxLen; omega) (by omega) (Nat.le_trans hbw Kf2.size) ?_
            intro v8 w3 ho8 hg8 hl8
            have hk3 := hk2.grow8 ho8 hg8
            have Kf3 := Kf2.trans (Keep.grown hg8 (fun b hb => Nat.lt_of_lt_of_le (hF b hb) Kf2.size) (fun b e hb => hb.2.2.1 e))
            have hv8 : ∀ b, v8.ownBlock = some b → (Value.slice na ns.length cn).ownBlock = some b ∨ w.heap.size ≤ b := fun b e => by
              rcases hl8 with h1 | h1
              · exact Or.inl (h1 ▸ e)
              · rw [h1] at e; injection e with e; exact Or.inr (by have := Kf2.size; omega)
            replace p14 := grown_cell hg8 p14 (fun e => by have := hnl _ e.symm; have := Kf0.size; omega)
            obtain ⟨ao8, cap8, rfl⟩ := own_shape ho8
            clear ho8 hg8 hl8 p7
            refine hK.out _ _ ?_ (fun _ => ?_)
            · exact True.intro
            clear hK K
            refine wpAnyH_ready (rs := [15]) (by kernel_rfl) (by simp) ?_
            refine AllReadyH.cons rfl (fun K hK => ?_) AllReadyH.nil
            refine step_append_at _ _ (some 47) 27 rfl rfl (by rfl) base 3 i3 (.int .i64 0) 1 8 Tryz.underlying27 hi3 hz30 hz31 hz32 rfl (by decide) (.slice ka ns.length ck) _ _ rfl (ok_at HLK.out hk3.ok) ⟨w0.heap.size, 0, none⟩ 1 1 [.int .i64 x] rfl rfl (one_cell0 p14) (fun u hu => by simp at hu; subst hu; rfl) (by unfold maxLen; omega) (by omega) (Nat.le_trans hbw Kf3.size) ?_
            intro v15 w4 ho15 hg15 hl15
            have hk4 := hk3.grow15 HLK.out ho15 hg15
            have Kf4 := Kf3.trans (Keep.grown hg15 (fun b hb => Nat.lt_of_lt_of_le (hF b hb) Kf3.size) (fun b e hb => hb.2.2.2 e))
            have hv15 : ∀ b, v15.ownBlock = some b → (Value.slice ka ns.length ck).ownBlock = some b ∨ w.heap.size ≤ b := fun b e => by
              rcases hl15 with h1 | h1
              · exact Or.inl (h1 ▸ e)
              · rw [h1] at e; injection e with e; exact Or.inr (by have := Kf3.size; omega)
            obtain ⟨ao15, cap15, rfl⟩ := own_shape ho15
            clear ho15 hg15 hl15 p14
            refine hK.out _ _ ?_ (fun _ => ?_)
            · exact True.intro
            clear hK K
            refine take_at 16 (some 48) (.pointer (some ⟨kb, 0, none⟩)) rfl rfl (by kernel_rfl) (by kernel_rfl) (by kernel_rfl) (fun _ _ _ h => h) (by rfl) (fun W hSw => by go_simp) True.intro ?_
            simp only [Act.put, List.setIfInBounds_toArray, List.set_cons_zero, List.set_cons_succ]
            refine take_at 17 (some 49) (.pointer (some ⟨kb, 0, none⟩)) rfl rfl (by kernel_rfl) (by kernel_rfl) (by kernel_rfl) (fun _ _ _ h => h) (by rfl) (fun W hSw => by go_simp) True.intro ?_
            simp only [Act.put, List.setIfInBounds_toArray, List.set_cons_zero, List.set_cons_succ]
            refine wpAnyH_ready (rs := [18]) (by kernel_rfl) (by simp) ?_
            refine AllReadyH.cons rfl (fun K hK => ?_) AllReadyH.nil
            have cc := hk4.c0
            have ff := hk4.f0
            go_simp
            clear cc ff
            have hkA := hk4.set0 (.slice ao8 (ns.length + 1) cap8)
            have KfA := Kf4.trans (Keep.grown (grown_set w4 kb 0 (.slice ao8 (ns.length + 1) cap8)) (fun b hb => Nat.lt_of_lt_of_le (hF b hb) Kf4.size) (fun b e hb => hb.2.1 (by injection e with e; exact e.symm)))
            generalize hw : w4.setCell ⟨kb, 0, none⟩ (.slice ao8 (ns.length + 1) cap8) = wA at *
            clear hw
            refine hK.out _ _ ?_ (fun _ => ?_)
            · exact True.intro
            clear hK K
            refine take_at 19 (some 50) (.pointer (some ⟨kb, 0, none⟩)) rfl rfl (by kernel_rfl) (by kernel_rfl) (by kernel_rfl) (fun _ _ _ h => h) (by rfl) (fun W hSw => by go_simp) True.intro ?_
            simp only [Act.put, List.setIfInBounds_toArray, List.set_cons_zero, List.set_cons_succ]
            refine take_at 20 (some 51) (.pointer (some ⟨kb, 1, none⟩)) rfl rfl (by kernel_rfl) (by kernel_rfl) (by kernel_rfl) (fun _ _ _ h => h) (by rfl) (fun W hSw => by go_simp) True.intro ?_
            simp only [Act.put, List.setIfInBounds_toArray, List.set_cons_zero, List.set_cons_succ]
            refine wpAnyH_ready (rs := [21]) (by kernel_rfl) (by simp) ?_
            refine AllReadyH.cons rfl (fun K hK => ?_) AllReadyH.nil
            have cc := hkA.c1
            have ff := hkA.f1
            go_simp
            clear cc ff
            have hkB := hkA.set1 (.slice ao15 (ns.length + 1) cap15)
            have KfB := KfA.trans (Keep.grown (grown_set wA kb 1 (.slice ao15 (ns.length + 1) cap15)) (fun b hb => Nat.lt_of_lt_of_le (hF b hb) KfA.size) (fun b e hb => hb.2.1 (by injection e with e; exact e.symm)))
            generalize hw : wA.setCell ⟨kb, 1, none⟩ (.slice ao15 (ns.length + 1) cap15) = wB at *
            clear hw
            refine hK.out _ _ ?_ (fun _ => ?_)
            · exact True.intro
            clear hK K
            refine wpAnyH_done (by kernel_rfl) ?_ _
            refine NoPanic.normal ?_
            go_wp2
            first | go_end0 | (refine bodyPost_ret (results_none rfl _ _ _) rfl ?_)
            exact ⟨rfl, _, _, by rw [HN'.out, HK'.out]; exact hkB, KfB, hv8, hv15⟩
        · go_simp
          have hz := bal (Below.refl _ w0) (.cells #[.int .i64 x] 3)
          have hk1 := hk0.later hz
          have Kf1 := Kf0.trans (Keep.of hz (fun b hb => Nat.lt_of_lt_of_le (hF b hb) Kf0.size))
          have p14 : (w0.alloc (.cells #[.int .i64 x] 3)).cell? ⟨w0.heap.size, 0, none⟩ = some (.int .i64 x) := by simp [go_sem]
          generalize hw : w0.alloc (.cells #[.int .i64 x] 3) = w1 at *
          clear hw hz
          refine hK.out _ _ ?_ (fun _ => ?_)
          · exact True.intro
          clear hK K
          refine wpAnyH_ready (rs := [7, 12]) (by kernel_rfl) (by simp) ?_
          refine AllReadyH.cons rfl (fun K hK => ?_) (AllReadyH.cons rfl (fun K hK => ?_) AllReadyH.nil)
          · go_simp
            have hz := bal (Below.refl _ w1) (.cells #[tx s] 9)
            have hk2 := hk1.later hz
            have Kf2 := Kf1.trans (Keep.of hz (fun b hb => Nat.lt_of_lt_of_le (hF b hb) Kf1.size))
            have p7 : (w1.alloc (.cells #[tx s] 9)).cell? ⟨w1.heap.size, 0, none⟩ = some (tx s) := by simp [go_sem]
            replace p14 := cell_later' p14 hz
            generalize hw : w1.alloc (.cells #[tx s] 9) = w2 at *
            clear hw hz
            refine hK.out _ _ ?_ (fun _ => ?_)
            · exact True.intro
            clear hK K
            refine wpAnyH_ready (rs := [8, 12]) (by kernel_rfl) (by simp) ?_
            refine AllReadyH.cons rfl (fun K hK => ?_) (AllReadyH.cons rfl (fun K hK => ?_) AllReadyH.nil)
            · refine step_append_at _ _ (some 40) 48 rfl rfl (by rfl) base 9 i9 (tx []) 1 16 Tryz.underlying48 hi9 hz90 hz91 hz92 rfl (by decide) (.slice na ns.length cn) _ _ rfl hk2.on ⟨w1.heap.size, 0, none⟩ 1 1 [tx s] rfl rfl (one_cell0 p7) (fun u hu => by simp at hu; subst hu; rfl) (by unfold maxLen; omega) (by omega) (Nat.le_trans hbw Kf2.size) ?_
              intro v8 w3 ho8 hg8 hl8
              have hk3 := hk2.grow8 ho8 hg8
              have Kf3 := Kf2.trans (Keep.grown hg8 (fun b hb => Nat.lt_of_lt_of_le (hF b hb) Kf2.size) (fun b e hb => hb.2.2.1 e))
              have hv8 : ∀ b, v8.ownBlock = some b → (Value.slice na ns.length cn).ownBlock = some b ∨ w.heap.size ≤ b := fun b e => by
                rcases hl8 with h1 | h1
                · exact Or.inl (h1 ▸ e)
                · rw [h1] at e; injection e with e; exact Or.inr (by have := Kf2.size; omega)
              replace p14 := grown_cell hg8 p14 (fun e => by have := hnl _ e.symm; have := Kf0.size; omega)
              obtain ⟨ao8, cap8, rfl⟩ := own_shape ho8
              clear ho8 hg8 hl8 p7
              refine hK.out _ _ ?_ (fun _ => ?_)
              · exact True.intro
              clear hK K
              refine wpAnyH_ready (rs := [12]) (by kernel_rfl) (by simp) ?_
              refine AllReadyH.cons rfl (fun K hK => ?_) AllReadyH.nil
              have cc := hk3.c1
              go_simp
              refine hK.out _ _ ?_ (fun _ => ?_)
              · exact True.intro
              clear hK K
              clear cc
              refine wpAnyH_ready (rs := [15]) (by kernel_rfl) (by simp) ?_
              refine AllReadyH.cons rfl (fun K hK => ?_) AllReadyH.nil
              refine step_append_at _ _ (some 47) 27 rfl rfl (by rfl) base 3 i3 (.int .i64 0) 1 8 Tryz.underlying27 hi3 hz30 hz31 hz32 rfl (by decide) (.slice ka ns.length ck) _ _ rfl (ok_at HLK.out hk3.ok) ⟨w0.heap.size, 0, none⟩ 1 1 [.int .i64 x] rfl rfl (one_cell0 p14) (fun u hu => by simp at hu; subst hu; rfl) (by unfold maxLen; omega) (by omega) (Nat.le_trans hbw Kf3.size) ?_
              intro v15 w4 ho15 hg15 hl15
              have hk4 := hk3.grow15 HLK.out ho15 hg15
              have Kf4 := Kf3.trans (Keep.grown hg15 (fun b hb => Nat.lt_of_lt_of_le (hF b hb) Kf3.size) (fun b e hb => hb.2.2.2 e))
              have hv15 : ∀ b, v15.ownBlock = some b → (Value.slice ka ns.length ck).ownBlock = some b ∨ w.heap.size ≤ b := fun b e => by
                rcases hl15 with h1 | h1
                · exact Or.inl (h1 ▸ e)
                · rw [h1] at e; injection e with e; exact Or.inr (by have := Kf3.size; omega)
              obtain ⟨ao15, cap15, rfl⟩ := own_shape ho15
              clear ho15 hg15 hl15 p14
              refine hK.out _ _ ?_ (fun _ => ?_)
              · exact True.intro
              clear hK K
              refine take_at 16 (some 48) (.pointer (some ⟨kb, 0, none⟩)) rfl rfl (by kernel_rfl) (by kernel_rfl) (by kernel_rfl) (fun _ _ _ h => h) (by rfl) (fun W hSw => by go_simp) True.intro ?_
              simp only [Act.put, List.setIfInBounds_toArray, List.set_cons_zero, List.set_cons_succ]
              refine take_at 17 (some 49) (.pointer (some ⟨kb, 0, none⟩)) rfl rfl (by kernel_rfl) (by kernel_rfl) (by kernel_rfl) (fun _ _ _ h => h) (by rfl) (fun W hSw => by go_simp) True.intro ?_
              simp only [Act.put, List.setIfInBounds_toArray, List.set_cons_zero, List.set_cons_succ]
              refine wpAnyH_ready (rs := [18]) (by kernel_rfl) (by simp) ?_
              refine AllReadyH.cons rfl (fun K hK => ?_) AllReadyH.nil
              have cc := hk4.c0
              have ff := hk4.f0
              go_simp
              clear cc ff
              have hkA := hk4.set0 (.slice ao8 (ns.length + 1) cap8)
              have KfA := Kf4.trans (Keep.grown (grown_set w4 kb 0 (.slice ao8 (ns.length + 1) cap8)) (fun b hb => Nat.lt_of_lt_of_le (hF b hb) Kf4.size) (fun b e hb => hb.2.1 (by injection e with e; exact e.symm)))
              generalize hw : w4.setCell ⟨kb, 0, none⟩ (.slice ao8 (ns.length + 1) cap8) = wA at *
              clear hw
              refine hK.out _ _ ?_ (fun _ => ?_)
              · exact True.intro
              clear hK K
              refine take_at 19 (some 50) (.pointer (some ⟨kb, 0, none⟩)) rfl rfl (by kernel_rfl) (by kernel_rfl) (by kernel_rfl) (fun _ _ _ h => h) (by rfl) (fun W hSw => by go_simp) True.intro ?_
              simp only [Act.put, List.setIfInBounds_toArray, List.set_cons_zero, List.set_cons_succ]
              refine take_at 20 (some 51) (.pointer (some ⟨kb, 1, none⟩)) rfl rfl (by kernel_rfl) (by kernel_rfl) (by kernel_rfl) (fun _ _ _ h => h) (by rfl) (fun W hSw => by go_simp) True.intro ?_
              simp only [Act.put, List.setIfInBounds_toArray, List.set_cons_zero, List.set_cons_succ]
              refine wpAnyH_ready (rs := [21]) (by kernel_rfl) (by simp) ?_
              refine AllReadyH.cons rfl (fun K hK => ?_) AllReadyH.nil
              have cc := hkA.c1
              have ff := hkA.f1
              go_simp
              clear cc ff
              have hkB := hkA.set1 (.slice ao15 (ns.length + 1) cap15)
              have KfB := KfA.trans (Keep.grown (grown_set wA kb 1 (.slice ao15 (ns.length + 1) cap15)) (fun b hb => Nat.lt_of_lt_of_le (hF b hb) KfA.size) (fun b e hb => hb.2.1 (by injection e with e; exact e.symm)))
              generalize hw : wA.setCell ⟨kb, 1, none⟩ (.slice ao15 (ns.length + 1) cap15) = wB at *
              clear hw
              refine hK.out _ _ ?_ (fun _ => ?_)
              · exact True.intro
              clear hK K
              refine wpAnyH_done (by kernel_rfl) ?_ _
              refine NoPanic.normal ?_
              go_wp2
              first | go_end0 | (refine bodyPost_ret (results_none rfl _ _ _) rfl ?_)
              exact ⟨rfl, _, _, by rw [HN'.out, HK'.out]; exact hkB, KfB, hv8, hv15⟩
            · have cc := hk2.c1
              go_simp
              refine hK.out _ _ ?_ (fun _ => ?_)
              · exact True.intro
              clear hK K
              clear cc
              refine wpAnyH_ready (rs := [8]) (by kernel_rfl) (by simp) ?_
              refine AllReadyH.cons rfl (fun K hK => ?_) AllReadyH.nil
              refine step_append_at _ _ (some 40) 48 rfl rfl (by rfl) base 9 i9 (tx []) 1 16 Tryz.underlying48 hi9 hz90 hz91 hz92 rfl (by decide) (.slice na ns.length cn) _ _ rfl hk2.on ⟨w1.heap.size, 0, none⟩ 1 1 [tx s] rfl rfl (one_cell0 p7) (fun u hu => by simp at hu; subst hu; rfl) (by unfold maxLen; omega) (by omega) (Nat.le_trans hbw Kf2.size) ?_
              intro v8 w3 ho8 hg8 hl8
              have hk3 := hk2.grow8 ho8 hg8
              have Kf3 := Kf2.trans (Keep.grown hg8 (fun b hb => Nat.lt_of_lt_of_le (hF b hb) Kf2.size) (fun b e hb => hb.2.2.1 e))
              have hv8 : ∀ b, v8.ownBlock = some b → (Value.slice na ns.length cn).ownBlock = some b ∨ w.heap.size ≤ b := fun b e => by
                rcases hl8 with h1 | h1
                · exact Or.inl (h1 ▸ e)
                · rw [h1] at e; injection e with e; exact Or.inr (by have := Kf2.size; omega)
              replace p14 := grown_cell hg8 p14 (fun e => by have := hnl _ e.symm; have := Kf0.size; omega)
              obtain ⟨ao8, cap8, rfl⟩ := own_shape ho8
              clear ho8 hg8 hl8 p7
              refine hK.out _ _ ?_ (fun _ => ?_)
              · exact True.intro
              clear hK K
              refine wpAnyH_ready (rs := [15]) (by kernel_rfl) (by simp) ?_
              refine AllReadyH.cons rfl (fun K hK => ?_) AllReadyH.nil
              refine step_append_at _ _ (some 47) 27 rfl rfl (by rfl) base 3 i3 (.int .i64 0) 1 8 Tryz.underlying27 hi3 hz30 hz31 hz32 rfl (by decide) (.slice ka ns.length ck) _ _ rfl (ok_at HLK.out hk3.ok) ⟨w0.heap.size, 0, none⟩ 1 1 [.int .i64 x] rfl rfl (one_cell0 p14) (fun u hu => by simp at hu; subst hu; rfl) (by unfold maxLen; omega) (by omega) (Nat.le_trans hbw Kf3.size) ?_
              intro v15 w4 ho15 hg15 hl15
              have hk4 := hk3.grow15 HLK.out ho15 hg15
              have Kf4 := Kf3.trans (Keep.grown hg15 (fun b hb => Nat.lt_of_lt_of_le (hF b hb) Kf3.size) (fun b e hb => hb.2.2.2 e))
              have hv15 : ∀ b, v15.ownBlock = some b → (Value.slice ka ns.length ck).ownBlock = some b ∨ w.heap.size ≤ b := fun b e => by
                rcases hl15 with h1 | h1
                · exact Or.inl (h1 ▸ e)
                · rw [h1] at e; injection e with e; exact Or.inr (by have := Kf3.size; omega)
              obtain ⟨ao15, cap15, rfl⟩ := own_shape ho15
              clear ho15 hg15 hl15 p14
              refine hK.out _ _ ?_ (fun _ => ?_)
              · exact True.intro
              clear hK K
              refine take_at 16 (some 48) (.pointer (some ⟨kb, 0, none⟩)) rfl rfl (by kernel_rfl) (by kernel_rfl) (by kernel_rfl) (fun _ _ _ h => h) (by rfl) (fun W hSw => by go_simp) True.intro ?_
              simp only [Act.put, List.setIfInBounds_toArray, List.set_cons_zero, List.set_cons_succ]
              refine take_at 17 (some 49) (.pointer (some ⟨kb, 0, none⟩)) rfl rfl (by kernel_rfl) (by kernel_rfl) (by kernel_rfl) (fun _ _ _ h => h) (by rfl) (fun W hSw => by go_simp) True.intro ?_
              simp only [Act.put, List.setIfInBounds_toArray, List.set_cons_zero, List.set_cons_succ]
              refine wpAnyH_ready (rs := [18]) (by kernel_rfl) (by simp) ?_
              refine AllReadyH.cons rfl (fun K hK => ?_) AllReadyH.nil
              have cc := hk4.c0
              have ff := hk4.f0
              go_simp
              clear cc ff
              have hkA := hk4.set0 (.slice ao8 (ns.length + 1) cap8)
              have KfA := Kf4.trans (Keep.grown (grown_set w4 kb 0 (.slice ao8 (ns.length + 1) cap8)) (fun b hb => Nat.lt_of_lt_of_le (hF b hb) Kf4.size) (fun b e hb => hb.2.1 (by injection e with e; exact e.symm)))
              generalize hw : w4.setCell ⟨kb, 0, none⟩ (.slice ao8 (ns.length + 1) cap8) = wA at *
              clear hw
              refine hK.out _ _ ?_ (fun _ => ?_)
              · exact True.intro
              clear hK K
              refine take_at 19 (some 50) (.pointer (some ⟨kb, 0, none⟩)) rfl rfl (by kernel_rfl) (by kernel_rfl) (by kernel_rfl) (fun _ _ _ h => h) (by rfl) (fun W hSw => by go_simp) True.intro ?_
              simp only [Act.put, List.setIfInBounds_toArray, List.set_cons_zero, List.set_cons_succ]
              refine take_at 20 (some 51) (.pointer (some ⟨kb, 1, none⟩)) rfl rfl (by kernel_rfl) (by kernel_rfl) (by kernel_rfl) (fun _ _ _ h => h) (by rfl) (fun W hSw => by go_simp) True.intro ?_
              simp only [Act.put, List.setIfInBounds_toArray, List.set_cons_zero, List.set_cons_succ]
              refine wpAnyH_ready (rs := [21]) (by kernel_rfl) (by simp) ?_
              refine AllReadyH.cons rfl (fun K hK => ?_) AllReadyH.nil
              have cc := hkA.c1
              have ff := hkA.f1
              go_simp
              clear cc ff
              have hkB := hkA.set1 (.slice ao15 (ns.length + 1) cap15)
              have KfB := KfA.trans (Keep.grown (grown_set wA kb 1 (.slice ao15 (ns.length + 1) cap15)) (fun b hb => Nat.lt_of_lt_of_le (hF b hb) KfA.size) (fun b e hb => hb.2.1 (by injection e with e; exact e.symm)))
              generalize hw : wA.setCell ⟨kb, 1, none⟩ (.slice ao15 (ns.length + 1) cap15) = wB at *
              clear hw
              refine hK.out _ _ ?_ (fun _ => ?_)
              · exact True.intro
              clear hK K
              refine wpAnyH_done (by kernel_rfl) ?_ _
              refine NoPanic.normal ?_
              go_wp2
              first | go_end0 | (refine bodyPost_ret (results_none rfl _ _ _) rfl ?_)
              exact ⟨rfl, _, _, by rw [HN'.out, HK'.out]; exact hkB, KfB, hv8, hv15⟩
          · have cc := hk1.c1
            go_simp
            refine hK.out _ _ ?_ (fun _ => ?_)
            · exact True.intro
            clear hK K
            clear cc
            refine wpAnyH_ready (rs := [7]) (by kernel_rfl) (by simp) ?_
            refine AllReadyH.cons rfl (fun K hK => ?_) AllReadyH.nil
            go_simp
            have hz := bal (Below.refl _ w1) (.cells #[tx s] 9)
            have hk2 := hk1.later hz
            have Kf2 := Kf1.trans (Keep.of hz (fun b hb => Nat.lt_of_lt_of_le (hF b hb) Kf1.size))
            have p7 : (w1.alloc (.cells #[tx s] 9)).cell? ⟨w1.heap.size, 0, none⟩ = some (tx s) := by simp [go_sem]
            replace p14 := cell_later' p14 hz
            generalize hw : w1.alloc (.cells #[tx s] 9) = w2 at *
            clear hw hz
            refine hK.out _ _ ?_ (fun _ => ?_)
            · exact True.intro
            clear hK K
            refine wpAnyH_ready (rs := [8]) (by kernel_rfl) (by simp) ?_
            refine AllReadyH.cons rfl (fun K hK => ?_) AllReadyH.nil
            refine step_append_at _ _ (some 40) 48 rfl rfl (by rfl) base 9 i9 (tx []) 1 16 Tryz.underlying48 hi9 hz90 hz91 hz92 rfl (by decide) (.slice na ns.length cn) _ _ rfl hk2.on ⟨w1.heap.size, 0, none⟩ 1 1 [tx s] rfl rfl (one_cell0 p7) (fun u hu => by simp at hu; subst hu; rfl) (by unfold maxLen; omega) (by omega) (Nat.le_trans hbw Kf2.size) ?_
            intro v8 w3 ho8 hg8 hl8
            have hk3 := hk2.grow8 ho8 hg8
            have Kf3 := Kf2.trans (Keep.grown hg8 (fun b hb => Nat.lt_of_lt_of_le (hF b hb) Kf2.size) (fun b e hb => hb.2.2.1 e))
            have hv8 : ∀ b, v8.ownBlock = some b → (Value.slice na ns.length cn).ownBlock = some b ∨ w.heap.size ≤ b := fun b e => by
              rcases hl8 with h1 | h1
              · exact Or.inl (h1 ▸ e)
              · rw [h1] at e; injection e with e; exact Or.inr (by have := Kf2.size; omega)
            replace p14 := grown_cell hg8 p14 (fun e => by have := hnl _ e.symm; have := Kf0.size; omega)
            obtain ⟨ao8, cap8, rfl⟩ := own_shape ho8
            clear ho8 hg8 hl8 p7
            refine hK.out _ _ ?_ (fun _ => ?_)
            · exact True.intro
            clear hK K
            refine wpAnyH_ready (rs := [15]) (by kernel_rfl) (by simp) ?_
            refine AllReadyH.cons rfl (fun K hK => ?_) AllReadyH.nil
            refine step_append_at _ _ (some 47) 27 rfl rfl (by rfl) base 3 i3 (.int .i64 0) 1 8 Tryz.underlying27 hi3 hz30 hz31 hz32 rfl (by decide) (.slice ka ns.length ck) _ _ rfl (ok_at HLK.out hk3.ok) ⟨w0.heap.size, 0, none⟩ 1 1 [.int .i64 x] rfl rfl (one_cell0 p14) (fun u hu => by simp at hu; subst hu; rfl) (by unfold maxLen; omega) (by omega) (Nat.le_trans hbw Kf3.size) ?_
            intro v15 w4 ho15 hg15 hl15
            have hk4 := hk3.grow15 HLK.out ho15 hg15
            have Kf4 := Kf3.trans (Keep.grown hg15 (fun b hb => Nat.lt_of_lt_of_le (hF b hb) Kf3.size) (fun b e hb => hb.2.2.2 e))
            have hv15 : ∀ b, v15.ownBlock = some b → (Value.slice ka ns.length ck).ownBlock = some b ∨ w.heap.size ≤ b := fun b e => by
              rcases hl15 with h1 | h1
              · exact Or.inl (h1 ▸ e)
              · rw [h1] at e; injection e with e; exact Or.inr (by have := Kf3.size; omega)
            obtain ⟨ao15, cap15, rfl⟩ := own_shape ho15
            clear ho15 hg15 hl15 p14
            refine hK.out _ _ ?_ (fun _ => ?_)
            · exact True.intro
            clear hK K
            refine take_at 16 (some 48) (.pointer (some ⟨kb, 0, none⟩)) rfl rfl (by kernel_rfl) (by kernel_rfl) (by kernel_rfl) (fun _ _ _ h => h) (by rfl) (fun W hSw => by go_simp) True.intro ?_
            simp only [Act.put, List.setIfInBounds_toArray, List.set_cons_zero, List.set_cons_succ]
            refine take_at 17 (some 49) (.pointer (some ⟨kb, 0, none⟩)) rfl rfl (by kernel_rfl) (by kernel_rfl) (by kernel_rfl) (fun _ _ _ h => h) (by rfl) (fun W hSw => by go_simp) True.intro ?_
            simp only [Act.put, List.setIfInBounds_toArray, List.set_cons_zero, List.set_cons_succ]
            refine wpAnyH_ready (rs := [18]) (by kernel_rfl) (by simp) ?_
            refine AllReadyH.cons rfl (fun K hK => ?_) AllReadyH.nil
            have cc := hk4.c0
            have ff := hk4.f0
            go_simp
            clear cc ff
            have hkA := hk4.set0 (.slice ao8 (ns.length + 1) cap8)
            have KfA := Kf4.trans (Keep.grown (grown_set w4 kb 0 (.slice ao8 (ns.length + 1) cap8)) (fun b hb => Nat.lt_of_lt_of_le (hF b hb) Kf4.size) (fun b e hb => hb.2.1 (by injection e with e; exact e.symm)))
            generalize hw : w4.setCell ⟨kb, 0, none⟩ (.slice ao8 (ns.length + 1) cap8) = wA at *
            clear hw
            refine hK.out _ _ ?_ (fun _ => ?_)
            · exact True.intro
            clear hK K
            refine take_at 19 (some 50) (.pointer (some ⟨kb, 0, none⟩)) rfl rfl (by kernel_rfl) (by kernel_rfl) (by kernel_rfl) (fun _ _ _ h => h) (by rfl) (fun W hSw => by go_simp) True.intro ?_
            simp only [Act.put, List.setIfInBounds_toArray, List.set_cons_zero, List.set_cons_succ]
            refine take_at 20 (some 51) (.pointer (some ⟨kb, 1, none⟩)) rfl rfl (by kernel_rfl) (by kernel_rfl) (by kernel_rfl) (fun _ _ _ h => h) (by rfl) (fun W hSw => by go_simp) True.intro ?_
            simp only [Act.put, List.setIfInBounds_toArray, List.set_cons_zero, List.set_cons_succ]
            refine wpAnyH_ready (rs := [21]) (by kernel_rfl) (by simp) ?_
            refine AllReadyH.cons rfl (fun K hK => ?_) AllReadyH.nil
            have cc := hkA.c1
            have ff := hkA.f1
            go_simp
            clear cc ff
            have hkB := hkA.set1 (.slice ao15 (ns.length + 1) cap15)
            have KfB := KfA.trans (Keep.grown (grown_set wA kb 1 (.slice ao15 (ns.length + 1) cap15)) (fun b hb => Nat.lt_of_lt_of_le (hF b hb) KfA.size) (fun b e hb => hb.2.1 (by injection e with e; exact e.symm)))
            generalize hw : wA.setCell ⟨kb, 1, none⟩ (.slice ao15 (ns.length + 1) cap15) = wB at *
            clear hw
            refine hK.out _ _ ?_ (fun _ => ?_)
            · exact True.intro
            clear hK K
            refine wpAnyH_done (by kernel_rfl) ?_ _
            refine NoPanic.normal ?_
            go_wp2
            first | go_end0 | (refine bodyPost_ret (results_none rfl _ _ _) rfl ?_)
            exact ⟨rfl, _, _, by rw [HN'.out, HK'.out]; exact hkB, KfB, hv8, hv15⟩
      · go_simp
        have hz := bal (Below.refl _ w0) (.cells #[tx s] 9)
        have hk1 := hk0.later hz
        have Kf1 := Kf0.trans (Keep.of hz (fun b hb => Nat.lt_of_lt_of_le (hF b hb) Kf0.size))
        have p7 : (w0.alloc (.cells #[tx s] 9)).cell? ⟨w0.heap.size, 0, none⟩ = some (tx s) := by simp [go_sem]
        generalize hw : w0.alloc (.cells #[tx s] 9) = w1 at *
        clear hw hz
        refine hK.out _ _ ?_ (fun _ => ?_)
        · exact True.intro
        clear hK K
        refine wpAnyH_ready (rs := [5, 12, 14]) (by kernel_rfl) (by simp) ?_
        refine AllReadyH.cons rfl (fun K hK => ?_) (AllReadyH.cons rfl (fun K hK => ?_) (AllReadyH.cons rfl (fun K hK => ?_) AllReadyH.nil))
        · have cc := hk1.c0
          go_simp
          refine hK.out _ _ ?_ (fun _ => ?_)
          · exact True.intro
          clear hK K
          clear cc
          refine wpAnyH_ready (rs := [8, 12, 14]) (by kernel_rfl) (by simp) ?_
          refine AllReadyH.cons rfl (fun K hK => ?_) (AllReadyH.cons rfl (fun K hK => ?_) (AllReadyH.cons rfl (fun K hK => ?_) AllReadyH.nil))
          · refine step_append_at _ _ (some 40) 48 rfl rfl (by rfl) base 9 i9 (tx []) 1 16 Tryz.underlying48 hi9 hz90 hz91 hz92 rfl (by decide) (.slice na ns.length cn) _ _ rfl hk1.on ⟨w0.heap.size, 0, none⟩ 1 1 [tx s] rfl rfl (one_cell0 p7) (fun u hu => by simp at hu; subst hu; rfl) (by unfold maxLen; omega) (by omega) (Nat.le_trans hbw Kf1.size) ?_
            intro v8 w2 ho8 hg8 hl8
            have hk2 := hk1.grow8 ho8 hg8
            have Kf2 := Kf1.trans (Keep.grown hg8 (fun b hb => Nat.lt_of_lt_of_le (hF b hb) Kf1.size) (fun b e hb => hb.2.2.1 e))
            have hv8 : ∀ b, v8.ownBlock = some b → (Value.slice na ns.length cn).ownBlock = some b ∨ w.heap.size ≤ b := fun b e => by
              rcases hl8 with h1 | h1
              · exact Or.inl (h1 ▸ e)
              · rw [h1] at e; injection e with e; exact Or.inr (by have := Kf1.size; omega)
            obtain ⟨ao8, cap8, rfl⟩ := own_shape ho8
            clear ho8 hg8 hl8 p7
            refine hK.out _ _ ?_ (fun _ => ?_)
            · exact True.intro
            clear hK K
            refine wpAnyH_ready (rs := [12, 14]) (by kernel_rfl) (by simp) ?_
            refine AllReadyH.cons rfl (fun K hK => ?_) (AllReadyH.cons rfl (fun K hK => ?_) AllReadyH.nil)
            · have cc := hk2.c1
              go_simp
              refine hK.out _ _ ?_ (fun _ => ?_)
              · exact True.intro
              clear hK K
              clear cc
              refine wpAnyH_ready (rs := [14]) (by kernel_rfl) (by simp) ?_
              refine AllReadyH.cons rfl (fun K hK => ?_) AllReadyH.nil
              go_simp
              have hz := bal (Below.refl _ w2) (.cells #[.int .i64 x] 3)
              have hk3 := hk2.later hz
              have Kf3 := Kf2.trans (Keep.of hz (fun b hb => Nat.lt_of_lt_of_le (hF b hb) Kf2.size))
              have p14 : (w2.alloc (.cells #[.int .i64 x] 3)).cell? ⟨w2.heap.size, 0, none⟩ = some (.int .i64 x) := by simp [go_sem]
              generalize hw : w2.alloc (.cells #[.int .i64 x] 3) = w3 at *
              clear hw hz
              refine hK.out _ _ ?_ (fun _ => ?_)
              · exact True.intro
              clear hK K
              refine wpAnyH_ready (rs := [15]) (by kernel_rfl) (by simp) ?_
              refine AllReadyH.cons rfl (fun K hK => ?_) AllReadyH.nil
              refine step_append_at _ _ (some 47) 27 rfl rfl (by rfl) base 3 i3 (.int .i64 0) 1 8 Tryz.underlying27 hi3 hz30 hz31 hz32 rfl (by decide) (.slice ka ns.length ck) _ _ rfl (ok_at HLK.out hk3.ok) ⟨w2.heap.size, 0, none⟩ 1 1 [.int .i64 x] rfl rfl (one_cell0 p14) (fun u hu => by simp at hu; subst hu; rfl) (by unfold maxLen; omega) (by omega) (Nat.le_trans hbw Kf3.size) ?_
              intro v15 w4 ho15 hg15 hl15
              have hk4 := hk3.grow15 HLK.out ho15 hg15
              have Kf4 := Kf3.trans (Keep.grown hg15 (fun b hb => Nat.lt_of_lt_of_le (hF b hb) Kf3.size) (fun b e hb => hb.2.2.2 e))
              have hv15 : ∀ b, v15.ownBlock = some b → (Value.slice ka ns.length ck).ownBlock = some b ∨ w.heap.size ≤ b := fun b e => by
                rcases hl15 with h1 | h1
                · exact Or.inl (h1 ▸ e)
                · rw [h1] at e; injection e with e; exact Or.inr (by have := Kf3.size; omega)
              obtain ⟨ao15, cap15, rfl⟩ := own_shape ho15
              clear ho15 hg15 hl15 p14
              refine hK.out _ _ ?_ (fun _ => ?_)
              · exact True.intro
              clear hK K
              refine take_at 16 (some 48) (.pointer (some ⟨kb, 0, none⟩)) rfl rfl (by kernel_rfl) (by kernel_rfl) (by kernel_rfl) (fun _ _ _ h => h) (by rfl) (fun W hSw => by go_simp) True.intro ?_
              simp only [Act.put, List.setIfInBounds_toArray, List.set_cons_zero, List.set_cons_succ]
              refine take_at 17 (some 49) (.pointer (some ⟨kb, 0, none⟩)) rfl rfl (by kernel_rfl) (by kernel_rfl) (by kernel_rfl) (fun _ _ _ h => h) (by rfl) (fun W hSw => by go_simp) True.intro ?_
              simp only [Act.put, List.setIfInBounds_toArray, List.set_cons_zero, List.set_cons_succ]
              refine wpAnyH_ready (rs := [18]) (by kernel_rfl) (by simp) ?_
              refine AllReadyH.cons rfl (fun K hK => ?_) AllReadyH.nil
              have cc := hk4.c0
              have ff := hk4.f0
              go_simp
              clear cc ff
              have hkA := hk4.set0 (.slice ao8 (ns.length + 1) cap8)
              have KfA := Kf4.trans (Keep.grown (grown_set w4 kb 0 (.slice ao8 (ns.length + 1) cap8)) (fun b hb => Nat.lt_of_lt_of_le (hF b hb) Kf4.size) (fun b e hb => hb.2.1 (by injection e with e; exact e.symm)))
              generalize hw : w4.setCell ⟨kb, 0, none⟩ (.slice ao8 (ns.length + 1) cap8) = wA at *
              clear hw
              refine hK.out _ _ ?_ (fun _ => ?_)
              · exact True.intro
              clear hK K
              refine take_at 19 (some 50) (.pointer (some ⟨kb, 0, none⟩)) rfl rfl (by kernel_rfl) (by kernel_rfl) (by kernel_rfl) (fun _ _ _ h => h) (by rfl) (fun W hSw => by go_simp) True.intro ?_
              simp only [Act.put, List.setIfInBounds_toArray, List.set_cons_zero, List.set_cons_succ]
              refine take_at 20 (some 51) (.pointer (some ⟨kb, 1, none⟩)) rfl rfl (by kernel_rfl) (by kernel_rfl) (by kernel_rfl) (fun _ _ _ h => h) (by rfl) (fun W hSw => by go_simp) True.intro ?_
              simp only [Act.put, List.setIfInBounds_toArray, List.set_cons_zero, List.set_cons_succ]
              refine wpAnyH_ready (rs := [21]) (by kernel_rfl) (by simp) ?_
              refine AllReadyH.cons rfl (fun K hK => ?_) AllReadyH.nil
              have cc := hkA.c1
              have ff := hkA.f1
              go_simp
              clear cc ff
              have hkB := hkA.set1 (.slice ao15 (ns.length + 1) cap15)
              have KfB := KfA.trans (Keep.grown (grown_set wA kb 1 (.slice ao15 (ns.length + 1) cap15)) (fun b hb => Nat.lt_of_lt_of_le (hF b hb) KfA.size) (fun b e hb => hb.2.1 (by injection e with e; exact e.symm)))
              generalize hw : wA.setCell ⟨kb, 1, none⟩ (.slice ao15 (ns.length + 1) cap15) = wB at *
              clear hw
              refine hK.out _ _ ?_ (fun _ => ?_)
              · exact True.intro
              clear hK K
              refine wpAnyH_done (by kernel_rfl) ?_ _
              refine NoPanic.normal ?_
              go_wp2
              first | go_end0 | (refine bodyPost_ret (results_none rfl _ _ _) rfl ?_)
              exact ⟨rfl, _, _, by rw [HN'.out, HK'.out]; exact hkB, KfB, hv8, hv15⟩
            · go_simp
              have hz := bal (Below.refl _ w2) (.cells #[.int .i64 x] 3)
              have hk3 := hk2.later hz
              have Kf3 := Kf2.trans (Keep.of hz (fun b hb => Nat.lt_of_lt_of_le (hF b hb) Kf2.size))
              have p14 : (w2.alloc (.cells #[.int .i64 x] 3)).cell? ⟨w2.heap.size, 0, none⟩ = some (.int .i64 x) := by simp [go_sem]
              generalize hw : w2.alloc (.cells #[.int .i64 x] 3) = w3 at *
              clear hw hz
              refine hK.out _ _ ?_ (fun _ => ?_)
              · exact True.intro
              clear hK K
              refine wpAnyH_ready (rs := [12]) (by kernel_rfl) (by simp) ?_
              refine AllReadyH.cons rfl (fun K hK => ?_) AllReadyH.nil
              have cc := hk3.c1
              go_simp
              refine hK.out _ _ ?_ (fun _ => ?_)
              · exact True.intro
              clear hK K
              clear cc
              refine wpAnyH_ready (rs := [15]) (by kernel_rfl) (by simp) ?_
              refine AllReadyH.cons rfl (fun K hK => ?_) AllReadyH.nil
              refine step_append_at _ _ (some 47) 27 rfl rfl (by rfl) base 3 i3 (.int .i64 0) 1 8 Tryz.underlying27 hi3 hz30 hz31 hz32 rfl (by decide) (.slice ka ns.length ck) _ _ rfl (ok_at HLK.out hk3.ok) ⟨w2.heap.size, 0, none⟩ 1 1 [.int .i64 x] rfl rfl (one_cell0 p14) (fun u hu => by simp at hu; subst hu; rfl) (by unfold maxLen; omega) (by omega) (Nat.le_trans hbw Kf3.size) ?_
              intro v15 w4 ho15 hg15 hl15
              have hk4 := hk3.grow15 HLK.out ho15 hg15
              have Kf4 := Kf3.trans (Keep.grown hg15 (fun b hb => Nat.lt_of_lt_of_le (hF b hb) Kf3.size) (fun b e hb => hb.2.2.2 e))
              have hv15 : ∀ b, v15.ownBlock = some b → (Value.slice ka ns.length ck).ownBlock = some b ∨ w.heap.size ≤ b := fun b e => by
                rcases hl15 with h1 | h1
                · exact Or.inl (h1 ▸ e)
                · rw [h1] at e; injection e with e; exact Or.inr (by have := Kf3.size; omega)
              obtain ⟨ao15, cap15, rfl⟩ := own_shape ho15
              clear ho15 hg15 hl15 p14
              refine hK.out _ _ ?_ (fun _ => ?_)
              · exact True.intro
              clear hK K
              refine take_at 16 (some 48) (.pointer (some ⟨kb, 0, none⟩)) rfl rfl (by kernel_rfl) (by kernel_rfl) (by kernel_rfl) (fun _ _ _ h => h) (by rfl) (fun W hSw => by go_simp) True.intro ?_
              simp only [Act.put, List.setIfInBounds_toArray, List.set_cons_zero, List.set_cons_succ]
              refine take_at 17 (some 49) (.pointer (some ⟨kb, 0, none⟩)) rfl rfl (by kernel_rfl) (by kernel_rfl) (by kernel_rfl) (fun _ _ _ h => h) (by rfl) (fun W hSw => by go_simp) True.intro ?_
              simp only [Act.put, List.setIfInBounds_toArray, List.set_cons_zero, List.set_cons_succ]
              refine wpAnyH_ready (rs := [18]) (by kernel_rfl) (by simp) ?_
              refine AllReadyH.cons rfl (fun K hK => ?_) AllReadyH.nil
              have cc := hk4.c0
              have ff := hk4.f0
              go_simp
              clear cc ff
              have hkA := hk4.set0 (.slice ao8 (ns.length + 1) cap8)
              have KfA := Kf4.trans (Keep.grown (grown_set w4 kb 0 (.slice ao8 (ns.length + 1) cap8)) (fun b hb => Nat.lt_of_lt_of_le (hF b hb) Kf4.size) (fun b e hb => hb.2.1 (by injection e with e; exact e.symm)))
              generalize hw : w4.setCell ⟨kb, 0, none⟩ (.slice ao8 (ns.length + 1) cap8) = wA at *
              clear hw
              refine hK.out _ _ ?_ (fun _ => ?_)
              · exact True.intro
              clear hK K
              refine take_at 19 (some 50) (.pointer (some ⟨kb, 0, none⟩)) rfl rfl (by kernel_rfl) (by kernel_rfl) (by kernel_rfl) (fun _ _ _ h => h) (by rfl) (fun W hSw => by go_simp) True.intro ?_
              simp only [Act.put, List.setIfInBounds_toArray, List.set_cons_zero, List.set_cons_succ]
              refine take_at 20 (some 51) (.pointer (some ⟨kb, 1, none⟩)) rfl rfl (by kernel_rfl) (by kernel_rfl) (by kernel_rfl) (fun _ _ _ h => h) (by rfl) (fun W hSw => by go_simp) True.intro ?_
              simp only [Act.put, List.setIfInBounds_toArray, List.set_cons_zero, List.set_cons_succ]
              refine wpAnyH_ready (rs := [21]) (by kernel_rfl) (by simp) ?_
              refine AllReadyH.cons rfl (fun K hK => ?_) AllReadyH.nil
              have cc := hkA.c1
              have ff := hkA.f1
              go_simp
              clear cc ff
              have hkB := hkA.set1 (.slice ao15 (ns.length + 1) cap15)
              have KfB := KfA.trans (Keep.grown (grown_set wA kb 1 (.slice ao15 (ns.length + 1) cap15)) (fun b hb => Nat.lt_of_lt_of_le (hF b hb) KfA.size) (fun b e hb => hb.2.1 (by injection e with e; exact e.symm)))
              generalize hw : wA.setCell ⟨kb, 1, none⟩ (.slice ao15 (ns.length + 1) cap15) = wB at *
              clear hw
              refine hK.out _ _ ?_ (fun _ => ?_)
              · exact True.intro
              clear hK K
              refine wpAnyH_done (by kernel_rfl) ?_ _
              refine NoPanic.normal ?_
              go_wp2
              first | go_end0 | (refine bodyPost_ret (results_none rfl _ _ _) rfl ?_)
              exact ⟨rfl, _, _, by rw [HN'.out, HK'.out]; exact hkB, KfB, hv8, hv15⟩
          · have cc := hk1.c1
            go_simp
            refine hK.out _ _ ?_ (fun _ => ?_)
            · exact True.intro
            clear hK K
            clear cc
            refine wpAnyH_ready (rs := [8, 14]) (by kernel_rfl) (by simp) ?_
            refine AllReadyH.cons rfl (fun K hK => ?_) (AllReadyH.cons rfl (fun K hK => ?_) AllReadyH.nil)
            · refine step_append_at _ _ (some 40) 48 rfl rfl (by rfl) base 9 i9 (tx []) 1 16 Tryz.underlying48 hi9 hz90 hz91 hz92 rfl (by decide) (.slice na ns.length cn) _ _ rfl hk1.on ⟨w0.heap.size, 0, none⟩ 1 1 [tx s] rfl rfl (one_cell0 p7) (fun u hu => by simp at hu; subst hu; rfl) (by unfold maxLen; omega) (by omega) (Nat.le_trans hbw Kf1.size) ?_
              intro v8 w2 ho8 hg8 hl8
              have hk2 := hk1.grow8 ho8 hg8
              have Kf2 := Kf1.trans (Keep.grown hg8 (fun b hb => Nat.lt_of_lt_of_le (hF b hb) Kf1.size) (fun b e hb => hb.2.2.1 e))
              have hv8 : ∀ b, v8.ownBlock = some b → (Value.slice na ns.length cn).ownBlock = some b ∨ w.heap.size ≤ b := fun b e => by
                rcases hl8 with h1 | h1
                · exact Or.inl (h1 ▸ e)
                · rw [h1] at e; injection e with e; exact Or.inr (by have := Kf1.size; omega)
              obtain ⟨ao8, cap8, rfl⟩ := own_shape ho8
              clear ho8 hg8 hl8 p7
              refine hK.out _ _ ?_ (fun _ => ?_)
              · exact True.intro
              clear hK K
              refine wpAnyH_ready (rs := [14]) (by kernel_rfl) (by simp) ?_
              refine AllReadyH.cons rfl (fun K hK => ?_) AllReadyH.nil
              go_simp
              have hz := bal (Below.refl _ w2) (.cells #[.int .i64 x] 3)
              have hk3 := hk2.later hz
              have Kf3 := Kf2.trans (Keep.of hz (fun b hb => Nat.lt_of_lt_of_le (hF b hb) Kf2.size))
              have p14 : (w2.alloc (.cells #[.int .i64 x] 3)).cell? ⟨w2.heap.size, 0, none⟩ = some (.int .i64 x) := by simp [go_sem]
              generalize hw : w2.alloc (.cells #[.int .i64 x] 3) = w3 at *
              clear hw hz
              refine hK.out _ _ ?_ (fun _ => ?_)
              · exact True.intro
              clear hK K
              refine wpAnyH_ready (rs := [15]) (by kernel_rfl) (by simp) ?_
              refine AllReadyH.cons rfl (fun K hK => ?_) AllReadyH.nil
              refine step_append_at _ _ (some 47) 27 rfl rfl (by rfl) base 3 i3 (.int .i64 0) 1 8 Tryz.underlying27 hi3 hz30 hz31 hz32 rfl (by decide) (.slice ka ns.length ck) _ _ rfl (ok_at HLK.out hk3.ok) ⟨w2.heap.size, 0, none⟩ 1 1 [.int .i64 x] rfl rfl (one_cell0 p14) (fun u hu => by simp at hu; subst hu; rfl) (by unfold maxLen; omega) (by omega) (Nat.le_trans hbw Kf3.size) ?_
              intro v15 w4 ho15 hg15 hl15
              have hk4 := hk3.grow15 HLK.out ho15 hg15
              have Kf4 := Kf3.trans (Keep.grown hg15 (fun b hb => Nat.lt_of_lt_of_le (hF b hb) Kf3.size) (fun b e hb => hb.2.2.2 e))
              have hv15 : ∀ b, v15.ownBlock = some b → (Value.slice ka ns.length ck).ownBlock = some b ∨ w.heap.size ≤ b := fun b e => by
                rcases hl15 with h1 | h1
                · exact Or.inl (h1 ▸ e)
                · rw [h1] at e; injection e with e; exact Or.inr (by have := Kf3.size; omega)
              obtain ⟨ao15, cap15, rfl⟩ := own_shape ho15
              clear ho15 hg15 hl15 p14
              refine hK.out _ _ ?_ (fun _ => ?_)
              · exact True.intro
              clear hK K
              refine take_at 16 (some 48) (.pointer (some ⟨kb, 0, none⟩)) rfl rfl (by kernel_rfl) (by kernel_rfl) (by kernel_rfl) (fun _ _ _ h => h) (by rfl) (fun W hSw => by go_simp) True.intro ?_
              simp only [Act.put, List.setIfInBounds_toArray, List.set_cons_zero, List.set_cons_succ]
              refine take_at 17 (some 49) (.pointer (some ⟨kb, 0, none⟩)) rfl rfl (by kernel_rfl) (by kernel_rfl) (by kernel_rfl) (fun _ _ _ h => h) (by rfl) (fun W hSw => by go_simp) True.intro ?_
              simp only [Act.put, List.setIfInBounds_toArray, List.set_cons_zero, List.set_cons_succ]
              refine wpAnyH_ready (rs := [18]) (by kernel_rfl) (by simp) ?_
              refine AllReadyH.cons rfl (fun K hK => ?_) AllReadyH.nil
              have cc := hk4.c0
              have ff := hk4.f0
              go_simp
              clear cc ff
              have hkA := hk4.set0 (.slice ao8 (ns.length + 1) cap8)
              have KfA := Kf4.trans (Keep.grown (grown_set w4 kb 0 (.slice ao8 (ns.length + 1) cap8)) (fun b hb => Nat.lt_of_lt_of_le (hF b hb) Kf4.size) (fun b e hb => hb.2.1 (by injection e with e; exact e.symm)))
              generalize hw : w4.setCell ⟨kb, 0, none⟩ (.slice ao8 (ns.length + 1) cap8) = wA at *
              clear hw
              refine hK.out _ _ ?_ (fun _ => ?_)
              · exact True.intro
              clear hK K
              refine take_at 19 (some 50) (.pointer (some ⟨kb, 0, none⟩)) rfl rfl (by kernel_rfl) (by kernel_rfl) (by kernel_rfl) (fun _ _ _ h => h) (by rfl) (fun W hSw => by go_simp) True.intro ?_
              simp only [Act.put, List.setIfInBounds_toArray, List.set_cons_zero, List.set_cons_succ]
              refine take_at 20 (some 51) (.pointer (some ⟨kb, 1, none⟩)) rfl rfl (by kernel_rfl) (by kernel_rfl) (by kernel_rfl) (fun _ _ _ h => h) (by rfl) (fun W hSw => by go_simp) True.intro ?_
              simp only [Act.put, List.setIfInBounds_toArray, List.set_cons_zero, List.set_cons_succ]
              refine wpAnyH_ready (rs := [21]) (by kernel_rfl) (by simp) ?_
              refine AllReadyH.cons rfl (fun K hK => ?_) AllReadyH.nil
              have cc := hkA.c1
              have ff := hkA.f1
              go_simp
              clear cc ff
              have hkB := hkA.set1 (.slice ao15 (ns.length + 1) cap15)
              have KfB := KfA.trans (Keep.grown (grown_set wA kb 1 (.slice ao15 (ns.length + 1) cap15)) (fun b hb => Nat.lt_of_lt_of_le (hF b hb) KfA.size) (fun b e hb => hb.2.1 (by injection e with e; exact e.symm)))
              generalize hw : wA.setCell ⟨kb, 1, none⟩ (.slice ao15 (ns.length + 1) cap15) = wB at *
              clear hw
              refine hK.out _ _ ?_ (fun _ => ?_)
              · exact True.intro
              clear hK K
              refine wpAnyH_done (by kernel_rfl) ?_ _
              refine NoPanic.normal ?_
              go_wp2
              first | go_end0 | (refine bodyPost_ret (results_none rfl _ _ _) rfl ?_)
              exact ⟨rfl, _, _, by rw [HN'.out, HK'.out]; exact hkB, KfB, hv8, hv15⟩
            · go_simp
              have hz := bal (Below.refl _ w1) (.cells #[.int .i64 x] 3)
              have hk2 := hk1.later hz
              have Kf2 := Kf1.trans (Keep.of hz (fun b hb => Nat.lt_of_lt_of_le (hF b hb) Kf1.size))
              have p14 : (w1.alloc (.cells #[.int .i64 x] 3)).cell? ⟨w1.heap.size, 0, none⟩ = some (.int .i64 x) := by simp [go_sem]
              replace p7 := cell_later' p7 hz
              generalize hw : w1.alloc (.cells #[.int .i64 x] 3) = w2 at *
              clear hw hz
              refine hK.out _ _ ?_ (fun _ => ?_)
              · exact True.intro
              clear hK K
              refine wpAnyH_ready (rs := [8]) (by kernel_rfl) (by simp) ?_
              refine AllReadyH.cons rfl (fun K hK => ?_) AllReadyH.nil
              refine step_append_at _ _ (some 40) 48 rfl rfl (by rfl) base 9 i9 (tx []) 1 16 Tryz.underlying48 hi9 hz90 hz91 hz92 rfl (by decide) (.slice na ns.length cn) _ _ rfl hk2.on ⟨w0.heap.size, 0, none⟩ 1 1 [tx s] rfl rfl (one_cell0 p7) (fun u hu => by simp at hu; subst hu; rfl) (by unfold maxLen; omega) (by omega) (Nat.le_trans hbw Kf2.size) ?_
              intro v8 w3 ho8 hg8 hl8
              have hk3 := hk2.grow8 ho8 hg8
              have Kf3 := Kf2.trans (Keep.grown hg8 (fun b hb => Nat.lt_of_lt_of_le (hF b hb) Kf2.size) (fun b e hb => hb.2.2.1 e))
              have hv8 : ∀ b, v8.ownBlock = some b → (Value.slice na ns.length cn).ownBlock = some b ∨ w.heap.size ≤ b := fun b e => by
                rcases hl8 with h1 | h1
                · exact Or.inl (h1 ▸ e)
                · rw [h1] at e; injection e with e; exact Or.inr (by have := Kf2.size; omega)
              replace p14 := grown_cell hg8 p14 (fun e => by have := hnl _ e.symm; have := Kf1.size; omega)
              obtain ⟨ao8, cap8, rfl⟩ := own_shape ho8
              clear ho8 hg8 hl8 p7
              refine hK.out _ _ ?_ (fun _ => ?_)
              · exact True.intro
              clear hK K
              refine wpAnyH_ready (rs := [15]) (by kernel_rfl) (by simp) ?_
              refine AllReadyH.cons rfl (fun K hK => ?_) AllReadyH.nil
              refine step_append_at _ _ (some 47) 27 rfl rfl (by rfl) base 3 i3 (.int .i64 0) 1 8 Tryz.underlying27 hi3 hz30 hz31 hz32 rfl (by decide) (.slice ka ns.length ck) _ _ rfl (ok_at HLK.out hk3.ok) ⟨w1.heap.size, 0, none⟩ 1 1 [.int .i64 x] rfl rfl (one_cell0 p14) (fun u hu => by simp at hu; subst hu; rfl) (by unfold maxLen; omega) (by omega) (Nat.le_trans hbw Kf3.size) ?_
              intro v15 w4 ho15 hg15 hl15
              have hk4 := hk3.grow15 HLK.out ho15 hg15
              have Kf4 := Kf3.trans (Keep.grown hg15 (fun b hb => Nat.lt_of_lt_of_le (hF b hb) Kf3.size) (fun b e hb => hb.2.2.2 e))
              have hv15 : ∀ b, v15.ownBlock = some b → (Value.slice ka ns.length ck).ownBlock = some b ∨ w.heap.size ≤ b := fun b e => by
                rcases hl15 with h1 | h1
                · exact Or.inl (h1 ▸ e)
                · rw [h1] at e; injection e with e; exact Or.inr (by have := Kf3.size; omega)
              obtain ⟨ao15, cap15, rfl⟩ := own_shape ho15
              clear ho15 hg15 hl15 p14
              refine hK.out _ _ ?_ (fun _ => ?_)
              · exact True.intro
              clear hK K
              refine take_at 16 (some 48) (.pointer (some ⟨kb, 0, none⟩)) rfl rfl (by kernel_rfl) (by kernel_rfl) (by kernel_rfl) (fun _ _ _ h => h) (by rfl) (fun W hSw => by go_simp) True.intro ?_
              simp only [Act.put, List.setIfInBounds_toArray, List.set_cons_zero, List.set_cons_succ]
              refine take_at 17 (some 49) (.pointer (some ⟨kb, 0, none⟩)) rfl rfl (by kernel_rfl) (by kernel_rfl) (by kernel_rfl) (fun _ _ _ h => h) (by rfl) (fun W hSw => by go_simp) True.intro ?_
              simp only [Act.put, List.setIfInBounds_toArray, List.set_cons_zero, List.set_cons_succ]
              refine wpAnyH_ready (rs := [18]) (by kernel_rfl) (by simp) ?_
              refine AllReadyH.cons rfl (fun K hK => ?_) AllReadyH.nil
              have cc := hk4.c0
              have ff := hk4.f0
              go_simp
              clear cc ff
              have hkA := hk4.set0 (.slice ao8 (ns.length + 1) cap8)
              have KfA := Kf4.trans (Keep.grown (grown_set w4 kb 0 (.slice ao8 (ns.length + 1) cap8)) (fun b hb => Nat.lt_of_lt_of_le (hF b hb) Kf4.size) (fun b e hb => hb.2.1 (by injection e with e; exact e.symm)))
              generalize hw : w4.setCell ⟨kb, 0, none⟩ (.slice ao8 (ns.length + 1) cap8) = wA at *
              clear hw
              refine hK.out _ _ ?_ (fun _ => ?_)
              · exact True.intro
              clear hK K
              refine take_at 19 (some 50) (.pointer (some ⟨kb, 0, none⟩)) rfl rfl (by kernel_rfl) (by kernel_rfl) (by kernel_rfl) (fun _ _ _ h => h) (by rfl) (fun W hSw => by go_simp) True.intro ?_
              simp only [Act.put, List.setIfInBounds_toArray, List.set_cons_zero, List.set_cons_succ]
              refine take_at 20 (some 51) (.pointer (some ⟨kb, 1, none⟩)) rfl rfl (by kernel_rfl) (by kernel_rfl) (by kernel_rfl) (fun _ _ _ h => h) (by rfl) (fun W hSw => by go_simp) True.intro ?_
              simp only [Act.put, List.setIfInBounds_toArray, List.set_cons_zero, List.set_cons_succ]
              refine wpAnyH_ready (rs := [21]) (by kernel_rfl) (by simp) ?_
              refine AllReadyH.cons rfl (fun K hK => ?_) AllReadyH.nil
              have cc := hkA.c1
              have ff := hkA.f1
              go_simp
              clear cc ff
              have hkB := hkA.set1 (.slice ao15 (ns.length + 1) cap15)
              have KfB := KfA.trans (Keep.grown (grown_set wA kb 1 (.slice ao15 (ns.length + 1) cap15)) (fun b hb => Nat.lt_of_lt_of_le (hF b hb) KfA.size) (fun b e hb => hb.2.1 (by injection e with e; exact e.symm)))
              generalize hw : wA.setCell ⟨kb, 1, none⟩ (.slice ao15 (ns.length + 1) cap15) = wB at *
              clear hw
              refine hK.out _ _ ?_ (fun _ => ?_)
              · exact True.intro
              clear hK K
              refine wpAnyH_done (by kernel_rfl) ?_ _
              refine NoPanic.normal ?_
              go_wp2
              first | go_end0 | (refine bodyPost_ret (results_none rfl _ _ _) rfl ?_)
              exact ⟨rfl, _, _, by rw [HN'.out, HK'.out]; exact hkB, KfB, hv8, hv15⟩
          · go_simp
            have hz := bal (Below.refl _ w1) (.cells #[.int .i64 x] 3)
            have hk2 := hk1.later hz
            have Kf2 := Kf1.trans (Keep.of hz (fun b hb => Nat.lt_of_lt_of_le (hF b hb) Kf1.size))
            have p14 : (w1.alloc (.cells #[.int .i64 x] 3)).cell? ⟨w1.heap.size, 0, none⟩ = some (.int .i64 x) := by simp [go_sem]
            replace p7 := cell_later' p7 hz
            generalize hw : w1.alloc (.cells #[.int .i64 x] 3) = w2 at *
            clear hw hz
            refine hK.out _ _ ?_ (fun _ => ?_)
            · exact True.intro
            clear hK K
            refine wpAnyH_ready (rs := [8, 12]) (by kernel_rfl) (by simp) ?_
            refine AllReadyH.cons rfl (fun K hK => ?_) (AllReadyH.cons rfl (fun K hK => ?_) AllReadyH.nil)
            · refine step_append_at _ _ (some 40) 48 rfl rfl (by rfl) base 9 i9 (tx []) 1 16 Tryz.underlying48 hi9 hz90 hz91 hz92 rfl (by decide) (.slice na ns.length cn) _ _ rfl hk2.on ⟨w0.heap.size, 0, none⟩ 1 1 [tx s] rfl rfl (one_cell0 p7) (fun u hu => by simp at hu; subst hu; rfl) (by unfold maxLen; omega) (by omega) (Nat.le_trans hbw Kf2.size) ?_
              intro v8 w3 ho8 hg8 hl8
              have hk3 := hk2.grow8 ho8 hg8
              have Kf3 := Kf2.trans (Keep.grown hg8 (fun b hb => Nat.lt_of_lt_of_le (hF b hb) Kf2.size) (fun b e hb => hb.2.2.1 e))
              have hv8 : ∀ b, v8.ownBlock = some b → (Value.slice na ns.length cn).ownBlock = some b ∨ w.heap.size ≤ b := fun b e => by
                rcases hl8 with h1 | h1
                · exact Or.inl (h1 ▸ e)
                · rw [h1] at e; injection e with e; exact Or.inr (by have := Kf2.size; omega)
              replace p14 := grown_cell hg8 p14 (fun e => by have := hnl _ e.symm; have := Kf1.size; omega)
              obtain ⟨ao8, cap8, rfl⟩ := own_shape ho8
              clear ho8 hg8 hl8 p7
              refine hK.out _ _ ?_ (fun _ => ?_)
              · exact True.intro
              clear hK K
              refine wpAnyH_ready (rs := [12]) (by kernel_rfl) (by simp) ?_
              refine AllReadyH.cons rfl (fun K hK => ?_) AllReadyH.nil
              have cc := hk3.c1
              go_simp
              refine hK.out _ _ ?_ (fun _ => ?_)
              · exact True.intro
              clear hK K
              clear cc
              refine wpAnyH_ready (rs := [15]) (by kernel_rfl) (by simp) ?_
              refine AllReadyH.cons rfl (fun K hK => ?_) AllReadyH.nil
              refine step_append_at _ _ (some 47) 27 rfl rfl (by rfl) base 3 i3 (.int .i64 0) 1 8 Tryz.underlying27 hi3 hz30 hz31 hz32 rfl (by decide) (.slice ka ns.length ck) _ _ rfl (ok_at HLK.out hk3.ok) ⟨w1.heap.size, 0, none⟩ 1 1 [.int .i64 x] rfl rfl (one_cell0 p14) (fun u hu => by simp at hu; subst hu; rfl) (by unfold maxLen; omega) (by omega) (Nat.le_trans hbw Kf3.size) ?_
              intro v15 w4 ho15 hg15 hl15
              have hk4 := hk3.grow15 HLK.out ho15 hg15
              have Kf4 := Kf3.trans (Keep.grown hg15 (fun b hb => Nat.lt_of_lt_of_le (hF b hb) Kf3.size) (fun b e hb => hb.2.2.2 e))
              have hv15 : ∀ b, v15.ownBlock = some b → (Value.slice ka ns.length ck).ownBlock = some b ∨ w.heap.size ≤ b := fun b e => by
                rcases hl15 with h1 | h1
                · exact Or.inl (h1 ▸ e)
                · rw [h1] at e; injection e with e; exact Or.inr (by have := Kf3.size; omega)
              obtain ⟨ao15, cap15, rfl⟩ := own_shape ho15
              clear ho15 hg15 hl15 p14
              refine hK.out _ _ ?_ (fun _ => ?_)
              · exact True.intro
              clear hK K
              refine take_at 16 (some 48) (.pointer (some ⟨kb, 0, none⟩)) rfl rfl (by kernel_rfl) (by kernel_rfl) (by kernel_rfl) (fun _ _ _ h => h) (by rfl) (fun W hSw => by go_simp) True.intro ?_
              simp only [Act.put, List.setIfInBounds_toArray, List.set_cons_zero, List.set_cons_succ]
              refine take_at 17 (some 49) (.pointer (some ⟨kb, 0, none⟩)) rfl rfl (by kernel_rfl) (by kernel_rfl) (by kernel_rfl) (fun _ _ _ h => h) (by rfl) (fun W hSw => by go_simp) True.intro ?_
              simp only [Act.put, List.setIfInBounds_toArray, List.set_cons_zero, List.set_cons_succ]
              refine wpAnyH_ready (rs := [18]) (by kernel_rfl) (by simp) ?_
              refine AllReadyH.cons rfl (fun K hK => ?_) AllReadyH.nil
              have cc := hk4.c0
              have ff := hk4.f0
              go_simp
              clear cc ff
              have hkA := hk4.set0 (.slice ao8 (ns.length + 1) cap8)
              have KfA := Kf4.trans (Keep.grown (grown_set w4 kb 0 (.slice ao8 (ns.length + 1) cap8)) (fun b hb => Nat.lt_of_lt_of_le (hF b hb) Kf4.size) (fun b e hb => hb.2.1 (by injection e with e; exact e.symm)))
              generalize hw : w4.setCell ⟨kb, 0, none⟩ (.slice ao8 (ns.length + 1) cap8) = wA at *
              clear hw
              refine hK.out _ _ ?_ (fun _ => ?_)
              · exact True.intro
              clear hK K
              refine take_at 19 (some 50) (.pointer (some ⟨kb, 0, none⟩)) rfl rfl (by kernel_rfl) (by kernel_rfl) (by kernel_rfl) (fun _ _ _ h => h) (by rfl) (fun W hSw => by go_simp) True.intro ?_
              simp only [Act.put, List.setIfInBounds_toArray, List.set_cons_zero, List.set_cons_succ]
              refine take_at 20 (some 51) (.pointer (some ⟨kb, 1, none⟩)) rfl rfl (by kernel_rfl) (by kernel_rfl) (by kernel_rfl) (fun _ _ _ h => h) (by rfl) (fun W hSw => by go_simp) True.intro ?_
              simp only [Act.put, List.setIfInBounds_toArray, List.set_cons_zero, List.set_cons_succ]
              refine wpAnyH_ready (rs := [21]) (by kernel_rfl) (by simp) ?_
              refine AllReadyH.cons rfl (fun K hK => ?_) AllReadyH.nil
              have cc := hkA.c1
              have ff := hkA.f1
              go_simp
              clear cc ff
              have hkB := hkA.set1 (.slice ao15 (ns.length + 1) cap15)
              have KfB := KfA.trans (Keep.grown (grown_set wA kb 1 (.slice ao15 (ns.length + 1) cap15)) (fun b hb => Nat.lt_of_lt_of_le (hF b hb) KfA.size) (fun b e hb => hb.2.1 (by injection e with e; exact e.symm)))
              generalize hw : wA.setCell ⟨kb, 1, none⟩ (.slice ao15 (ns.length + 1) cap15) = wB at *
              clear hw
              refine hK.out _ _ ?_ (fun _ => ?_)
              · exact True.intro
              clear hK K
              refine wpAnyH_done (by kernel_rfl) ?_ _
              refine NoPanic.normal ?_
              go_wp2
              first | go_end0 | (refine bodyPost_ret (results_none rfl _ _ _) rfl ?_)
              exact ⟨rfl, _, _, by rw [HN'.out, HK'.out]; exact hkB, KfB, hv8, hv15⟩
            · have cc := hk2.c1
              go_simp
              refine hK.out _ _ ?_ (fun _ => ?_)
              · exact True.intro
              clear hK K
              clear cc
              refine wpAnyH_ready (rs := [8]) (by kernel_rfl) (by simp) ?_
              refine AllReadyH.cons rfl (fun K hK => ?_) AllReadyH.nil
              refine step_append_at _ _ (some 40) 48 rfl rfl (by rfl) base 9 i9 (tx []) 1 16 Tryz.underlying48 hi9 hz90 hz91 hz92 rfl (by decide) (.slice na ns.length cn) _ _ rfl hk2.on ⟨w0.heap.size, 0, none⟩ 1 1 [tx s] rfl rfl (one_cell0 p7) (fun u hu => by simp at hu; subst hu; rfl) (by unfold maxLen; omega) (by omega) (Nat.le_trans hbw Kf2.size) ?_
              intro v8 w3 ho8 hg8 hl8
              have hk3 := hk2.grow8 ho8 hg8
              have Kf3 := Kf2.trans (Keep.grown hg8 (fun b hb => Nat.lt_of_lt_of_le (hF b hb) Kf2.size) (fun b e hb => hb.2.2.1 e))
              have hv8 : ∀ b, v8.ownBlock = some b → (Value.slice na ns.length cn).ownBlock = some b ∨ w.heap.size ≤ b := fun b e => by
                rcases hl8 with h1 | h1
                · exact Or.inl (h1 ▸ e)
                · rw [h1] at e; injection e with e; exact Or.inr (by have := Kf2.size; omega)
              replace p14 := grown_cell hg8 p14 (fun e => by have := hnl _ e.symm; have := Kf1.size; omega)
              obtain ⟨ao8, cap8, rfl⟩ := own_shape ho8
              clear ho8 hg8 hl8 p7
              refine hK.out _ _ ?_ (fun _ => ?_)
              · exact True.intro
              clear hK K
              refine wpAnyH_ready (rs := [15]) (by kernel_rfl) (by simp) ?_
              refine AllReadyH.cons rfl (fun K hK => ?_) AllReadyH.nil
              refine step_append_at _ _ (some 47) 27 rfl rfl (by rfl) base 3 i3 (.int .i64 0) 1 8 Tryz.underlying27 hi3 hz30 hz31 hz32 rfl (by decide) (.slice ka ns.length ck) _ _ rfl (ok_at HLK.out hk3.ok) ⟨w1.heap.size, 0, none⟩ 1 1 [.int .i64 x] rfl rfl (one_cell0 p14) (fun u hu => by simp at hu; subst hu; rfl) (by unfold maxLen; omega) (by omega) (Nat.le_trans hbw Kf3.size) ?_
              intro v15 w4 ho15 hg15 hl15
              have hk4 := hk3.grow15 HLK.out ho15 hg15
              have Kf4 := Kf3.trans (Keep.grown hg15 (fun b hb => Nat.lt_of_lt_of_le (hF b hb) Kf3.size) (fun b e hb => hb.2.2.2 e))
              have hv15 : ∀ b, v15.ownBlock = some b → (Value.slice ka ns.length ck).ownBlock = some b ∨ w.heap.size ≤ b := fun b e => by
                rcases hl15 with h1 | h1
                · exact Or.inl (h1 ▸ e)
                · rw [h1] at e; injection e with e; exact Or.inr (by have := Kf3.size; omega)
              obtain ⟨ao15, cap15, rfl⟩ := own_shape ho15
              clear ho15 hg15 hl15 p14
              refine hK.out _ _ ?_ (fun _ => ?_)
              · exact True.intro
              clear hK K
              refine take_at 16 (some 48) (.pointer (some ⟨kb, 0, none⟩)) rfl rfl (by kernel_rfl) (by kernel_rfl) (by kernel_rfl) (fun _ _ _ h => h) (by rfl) (fun W hSw => by go_simp) True.intro ?_
              simp only [Act.put, List.setIfInBounds_toArray, List.set_cons_zero, List.set_cons_succ]
              refine take_at 17 (some 49) (.pointer (some ⟨kb, 0, none⟩)) rfl rfl (by kernel_rfl) (by kernel_rfl) (by kernel_rfl) (fun _ _ _ h => h) (by rfl) (fun W hSw => by go_simp) True.intro ?_
              simp only [Act.put, List.setIfInBounds_toArray, List.set_cons_zero, List.set_cons_succ]
              refine wpAnyH_ready (rs := [18]) (by kernel_rfl) (by simp) ?_
              refine AllReadyH.cons rfl (fun K hK => ?_) AllReadyH.nil
              have cc := hk4.c0
              have ff := hk4.f0
              go_simp
              clear cc ff
              have hkA := hk4.set0 (.slice ao8 (ns.length + 1) cap8)
              have KfA := Kf4.trans (Keep.grown (grown_set w4 kb 0 (.slice ao8 (ns.length + 1) cap8)) (fun b hb => Nat.lt_of_lt_of_le (hF b hb) Kf4.size) (fun b e hb => hb.2.1 (by injection e with e; exact e.symm)))
              generalize hw : w4.setCell ⟨kb, 0, none⟩ (.slice ao8 (ns.length + 1) cap8) = wA at *
              clear hw
              refine hK.out _ _ ?_ (fun _ => ?_)
              · exact True.intro
              clear hK K
              refine take_at 19 (some 50) (.pointer (some ⟨kb, 0, none⟩)) rfl rfl (by kernel_rfl) (by kernel_rfl) (by kernel_rfl) (fun _ _ _ h => h) (by rfl) (fun W hSw => by go_simp) True.intro ?_
              simp only [Act.put, List.setIfInBounds_toArray, List.set_cons_zero, List.set_cons_succ]
              refine take_at 20 (some 51) (.pointer (some ⟨kb, 1, none⟩)) rfl rfl (by kernel_rfl) (by kernel_rfl) (by kernel_rfl) (fun _ _ _ h => h) (by rfl) (fun W hSw => by go_simp) True.intro ?_
              simp only [Act.put, List.setIfInBounds_toArray, List.set_cons_zero, List.set_cons_succ]
              refine wpAnyH_ready (rs := [21]) (by kernel_rfl) (by simp) ?_
              refine AllReadyH.cons rfl (fun K hK => ?_) AllReadyH.nil
              have cc := hkA.c1
              have ff := hkA.f1
              go_simp
              clear cc ff
              have hkB := hkA.set1 (.slice ao15 (ns.length + 1) cap15)
              have KfB := KfA.trans (Keep.grown (grown_set wA kb 1 (.slice ao15 (ns.length + 1) cap15)) (fun b hb => Nat.lt_of_lt_of_le (hF b hb) KfA.size) (fun b e hb => hb.2.1 (by injection e with e; exact e.symm)))
              generalize hw : wA.setCell ⟨kb, 1, none⟩ (.slice ao15 (ns.length + 1) cap15) = wB at *
              clear hw
              refine hK.out _ _ ?_ (fun _ => ?_)
              · exact True.intro
              clear hK K
              refine wpAnyH_done (by kernel_rfl) ?_ _
              refine NoPanic.normal ?_
              go_wp2
              first | go_end0 | (refine bodyPost_ret (results_none rfl _ _ _) rfl ?_)
              exact ⟨rfl, _, _, by rw [HN'.out, HK'.out]; exact hkB, KfB, hv8, hv15⟩
        · have cc := hk1.c1
          go_simp
          refine hK.out _ _ ?_ (fun _ => ?_)
          · exact True.intro
          clear hK K
          clear cc
          refine wpAnyH_ready (rs := [5, 14]) (by kernel_rfl) (by simp) ?_
          refine AllReadyH.cons rfl (fun K hK => ?_) (AllReadyH.cons rfl (fun K hK => ?_) AllReadyH.nil)
          · have cc := hk1.c0
            go_simp
            refine hK.out _ _ ?_ (fun _ => ?_)
            · exact True.intro
            clear hK K
            clear cc
            refine wpAnyH_ready (rs := [8, 14]) (by kernel_rfl) (by simp) ?_
            refine AllReadyH.cons rfl (fun K hK => ?_) (AllReadyH.cons rfl (fun K hK => ?_) AllReadyH.nil)
            · refine step_append_at _ _ (some 40) 48 rfl rfl (by rfl) base 9 i9 (tx []) 1 16 Tryz.underlying48 hi9 hz90 hz91 hz92 rfl (by decide) (.slice na ns.length cn) _ _ rfl hk1.on ⟨w0.heap.size, 0, none⟩ 1 1 [tx s] rfl rfl (one_cell0 p7) (fun u hu => by simp at hu; subst hu; rfl) (by unfold maxLen; omega) (by omega) (Nat.le_trans hbw Kf1.size) ?_
              intro v8 w2 ho8 hg8 hl8
              have hk2 := hk1.grow8 ho8 hg8
              have Kf2 := Kf1.trans (Keep.grown hg8 (fun b hb => Nat.lt_of_lt_of_le (hF b hb) Kf1.size) (fun b e hb => hb.2.2.1 e))
              have hv8 : ∀ b, v8.ownBlock = some b → (Value.slice na ns.length cn).ownBlock = some b ∨ w.heap.size ≤ b := fun b e => by
                rcases hl8 with h1 | h1
                · exact Or.inl (h1 ▸ e)
                · rw [h1] at e; injection e with e; exact Or.inr (by have := Kf1.size; omega)
              obtain ⟨ao8, cap8, rfl⟩ := own_shape ho8
              clear ho8 hg8 hl8 p7
              refine hK.out _ _ ?_ (fun _ => ?_)
              · exact True.intro
              clear hK K
              refine wpAnyH_ready (rs := [14]) (by kernel_rfl) (by simp) ?_
              refine AllReadyH.cons rfl (fun K hK => ?_) AllReadyH.nil
              go_simp
              have hz := bal (Below.refl _ w2) (.cells #[.int .i64 x] 3)
              have hk3 := hk2.later hz
              have Kf3 := Kf2.trans (Keep.of hz (fun b hb => Nat.lt_of_lt_of_le (hF b hb) Kf2.size))
              have p14 : (w2.alloc (.cells #[.int .i64 x] 3)).cell? ⟨w2.heap.size, 0, none⟩ = some (.int .i64 x) := by simp [go_sem]
              generalize hw : w2.alloc (.cells #[.int .i64 x] 3) = w3 at *
              clear hw hz
              refine hK.out _ _ ?_ (fun _ => ?_)
              · exact True.intro
              clear hK K
              refine wpAnyH_ready (rs := [15]) (by kernel_rfl) (by simp) ?_
              refine AllReadyH.cons rfl (fun K hK => ?_) AllReadyH.nil
              refine step_append_at _ _ (some 47) 27 rfl rfl (by rfl) base 3 i3 (.int .i64 0) 1 8 Tryz.underlying27 hi3 hz30 hz31 hz32 rfl (by decide) (.slice ka ns.length ck) _ _ rfl (ok_at HLK.out hk3.ok) ⟨w2.heap.size, 0, none⟩ 1 1 [.int .i64 x] rfl rfl (one_cell0 p14) (fun u hu => by simp at hu; subst hu; rfl) (by unfold maxLen; omega) (by omega) (Nat.le_trans hbw Kf3.size) ?_
              intro v15 w4 ho15 hg15 hl15
              have hk4 := hk3.grow15 HLK.out ho15 hg15
              have Kf4 := Kf3.trans (Keep.grown hg15 (fun b hb => Nat.lt_of_lt_of_le (hF b hb) Kf3.size) (fun b e hb => hb.2.2.2 e))
              have hv15 : ∀ b, v15.ownBlock = some b → (Value.slice ka ns.length ck).ownBlock = some b ∨ w.heap.size ≤ b := fun b e => by
                rcases hl15 with h1 | h1
                · exact Or.inl (h1 ▸ e)
                · rw [h1] at e; injection e with e; exact Or.inr (by have := Kf3.size; omega)
              obtain ⟨ao15, cap15, rfl⟩ := own_shape ho15
              clear ho15 hg15 hl15 p14
              refine hK.out _ _ ?_ (fun _ => ?_)
              · exact True.intro
              clear hK K
              refine take_at 16 (some 48) (.pointer (some ⟨kb, 0, none⟩)) rfl rfl (by kernel_rfl) (by kernel_rfl) (by kernel_rfl) (fun _ _ _ h => h) (by rfl) (fun W hSw => by go_simp) True.intro ?_
              simp only [Act.put, List.setIfInBounds_toArray, List.set_cons_zero, List.set_cons_succ]
              refine take_at 17 (some 49) (.pointer (some ⟨kb, 0, none⟩)) rfl rfl (by kernel_rfl) (by kernel_rfl) (by kernel_rfl) (fun _ _ _ h => h) (by rfl) (fun W hSw => by go_simp) True.intro ?_
              simp only [Act.put, List.setIfInBounds_toArray, List.set_cons_zero, List.set_cons_succ]
              refine wpAnyH_ready (rs := [18]) (by kernel_rfl) (by simp) ?_
              refine AllReadyH.cons rfl (fun K hK => ?_) AllReadyH.nil
              have cc := hk4.c0
              have ff := hk4.f0
              go_simp
              clear cc ff
              have hkA := hk4.set0 (.slice ao8 (ns.length + 1) cap8)
              have KfA := Kf4.trans (Keep.grown (grown_set w4 kb 0 (.slice ao8 (ns.length + 1) cap8)) (fun b hb => Nat.lt_of_lt_of_le (hF b hb) Kf4.size) (fun b e hb => hb.2.1 (by injection e with e; exact e.symm)))
              generalize hw : w4.setCell ⟨kb, 0, none⟩ (.slice ao8 (ns.length + 1) cap8) = wA at *
              clear hw
              refine hK.out _ _ ?_ (fun _ => ?_)
              · exact True.intro
              clear hK K
              refine take_at 19 (some 50) (.pointer (some ⟨kb, 0, none⟩)) rfl rfl (by kernel_rfl) (by kernel_rfl) (by kernel_rfl) (fun _ _ _ h => h) (by rfl) (fun W hSw => by go_simp) True.intro ?_
              simp only [Act.put, List.setIfInBounds_toArray, List.set_cons_zero, List.set_cons_succ]
              refine take_at 20 (some 51) (.pointer (some ⟨kb, 1, none⟩)) rfl rfl (by kernel_rfl) (by kernel_rfl) (by kernel_rfl) (fun _ _ _ h => h) (by rfl) (fun W hSw => by go_simp) True.intro ?_
              simp only [Act.put, List.setIfInBounds_toArray, List.set_cons_zero, List.set_cons_succ]
              refine wpAnyH_ready (rs := [21]) (by kernel_rfl) (by simp) ?_
              refine AllReadyH.cons rfl (fun K hK => ?_) AllReadyH.nil
              have cc := hkA.c1
              have ff := hkA.f1
              go_simp
              clear cc ff
              have hkB := hkA.set1 (.slice ao15 (ns.length + 1) cap15)
              have KfB := KfA.trans (Keep.grown (grown_set wA kb 1 (.slice ao15 (ns.length + 1) cap15)) (fun b hb => Nat.lt_of_lt_of_le (hF b hb) KfA.size) (fun b e hb => hb.2.1 (by injection e with e; exact e.symm)))
              generalize hw : wA.setCell ⟨kb, 1, none⟩ (.slice ao15 (ns.length + 1) cap15) = wB at *
              clear hw
              refine hK.out _ _ ?_ (fun _ => ?_)
              · exact True.intro
              clear hK K
              refine wpAnyH_done (by kernel_rfl) ?_ _
              refine NoPanic.normal ?_
              go_wp2
              first | go_end0 | (refine bodyPost_ret (results_none rfl _ _ _) rfl ?_)
              exact ⟨rfl, _, _, by rw [HN'.out, HK'.out]; exact hkB, KfB, hv8, hv15⟩
            · go_simp
              have hz := bal (Below.refl _ w1) (.cells #[.int .i64 x] 3)
              have hk2 := hk1.later hz
              have Kf2 := Kf1.trans (Keep.of hz (fun b hb => Nat.lt_of_lt_of_le (hF b hb) Kf1.size))
              have p14 : (w1.alloc (.cells #[.int .i64 x] 3)).cell? ⟨w1.heap.size, 0, none⟩ = some (.int .i64 x) := by simp [go_sem]
              replace p7 := cell_later' p7 hz
              generalize hw : w1.alloc (.cells #[.int .i64 x] 3) = w2 at *
              clear hw hz
              refine hK.out _ _ ?_ (fun _ => ?_)
              · exact True.intro
              clear hK K
              refine wpAnyH_ready (rs := [8]) (by kernel_rfl) (by simp) ?_
              refine AllReadyH.cons rfl (fun K hK => ?_) AllReadyH.nil
              refine step_append_at _ _ (some 40) 48 rfl rfl (by rfl) base 9 i9 (tx []) 1 16 Tryz.underlying48 hi9 hz90 hz91 hz92 rfl (by decide) (.slice na ns.length cn) _ _ rfl hk2.on ⟨w0.heap.size, 0, none⟩ 1 1 [tx s] rfl rfl (one_cell0 p7) (fun u hu => by simp at hu; subst hu; rfl) (by unfold maxLen; omega) (by omega) (Nat.le_trans hbw Kf2.size) ?_
              intro v8 w3 ho8 hg8 hl8
              have hk3 := hk2.grow8 ho8 hg8
              have Kf3 := Kf2.trans (Keep.grown hg8 (fun b hb => Nat.lt_of_lt_of_le (hF b hb) Kf2.size) (fun b e hb => hb.2.2.1 e))
              have hv8 : ∀ b, v8.ownBlock = some b → (Value.slice na ns.length cn).ownBlock = some b ∨ w.heap.size ≤ b := fun b e => by
                rcases hl8 with h1 | h1
                · exact Or.inl (h1 ▸ e)
                · rw [h1] at e; injection e with e; exact Or.inr (by have := Kf2.size; omega)
              replace p14 := grown_cell hg8 p14 (fun e => by have := hnl _ e.symm; have := Kf1.size; omega)
              obtain ⟨ao8, cap8, rfl⟩ := own_shape ho8
              clear ho8 hg8 hl8 p7
              refine hK.out _ _ ?_ (fun _ => ?_)
              · exact True.intro
              clear hK K
              refine wpAnyH_ready (rs := [15]) (by kernel_rfl) (by simp) ?_
              refine AllReadyH.cons rfl (fun K hK => ?_) AllReadyH.nil
              refine step_append_at _ _ (some 47) 27 rfl rfl (by rfl) base 3 i3 (.int .i64 0) 1 8 Tryz.underlying27 hi3 hz30 hz31 hz32 rfl (by decide) (.slice ka ns.length ck) _ _ rfl (ok_at HLK.out hk3.ok) ⟨w1.heap.size, 0, none⟩ 1 1 [.int .i64 x] rfl rfl (one_cell0 p14) (fun u hu => by simp at hu; subst hu; rfl) (by unfold maxLen; omega) (by omega) (Nat.le_trans hbw Kf3.size) ?_
              intro v15 w4 ho15 hg15 hl15
              have hk4 := hk3.grow15 HLK.out ho15 hg15
              have Kf4 := Kf3.trans (Keep.grown hg15 (fun b hb => Nat.lt_of_lt_of_le (hF b hb) Kf3.size) (fun b e hb => hb.2.2.2 e))
              have hv15 : ∀ b, v15.ownBlock = some b → (Value.slice ka ns.length ck).ownBlock = some b ∨ w.heap.size ≤ b := fun b e => by
                rcases hl15 with h1 | h1
                · exact Or.inl (h1 ▸ e)
                · rw [h1] at e; injection e with e; exact Or.inr (by have := Kf3.size; omega)
              obtain ⟨ao15, cap15, rfl⟩ := own_shape ho15
              clear ho15 hg15 hl15 p14
              refine hK.out _ _ ?_ (fun _ => ?_)
              · exact True.intro
              clear hK K
              refine take_at 16 (some 48) (.pointer (some ⟨kb, 0, none⟩)) rfl rfl (by kernel_rfl) (by kernel_rfl) (by kernel_rfl) (fun _ _ _ h => h) (by rfl) (fun W hSw => by go_simp) True.intro ?_
              simp only [Act.put, List.setIfInBounds_toArray, List.set_cons_zero, List.set_cons_succ]
              refine take_at 17 (some 49) (.pointer (some ⟨kb, 0, none⟩)) rfl rfl (by kernel_rfl) (by kernel_rfl) (by kernel_rfl) (fun _ _ _ h => h) (by rfl) (fun W hSw => by go_simp) True.intro ?_
              simp only [Act.put, List.setIfInBounds_toArray, List.set_cons_zero, List.set_cons_succ]
              refine wpAnyH_ready (rs := [18]) (by kernel_rfl) (by simp) ?_
              refine AllReadyH.cons rfl (fun K hK => ?_) AllReadyH.nil
              have cc := hk4.c0
              have ff := hk4.f0
              go_simp
              clear cc ff
              have hkA := hk4.set0 (.slice ao8 (ns.length + 1) cap8)
              have KfA := Kf4.trans (Keep.grown (grown_set w4 kb 0 (.slice ao8 (ns.length + 1) cap8)) (fun b hb => Nat.lt_of_lt_of_le (hF b hb) Kf4.size) (fun b e hb => hb.2.1 (by injection e with e; exact e.symm)))
              generalize hw : w4.setCell ⟨kb, 0, none⟩ (.slice ao8 (ns.length + 1) cap8) = wA at *
              clear hw
              refine hK.out _ _ ?_ (fun _ => ?_)
              · exact True.intro
              clear hK K
              refine take_at 19 (some 50) (.pointer (some ⟨kb, 0, none⟩)) rfl rfl (by kernel_rfl) (by kernel_rfl) (by kernel_rfl) (fun _ _ _ h => h) (by rfl) (fun W hSw => by go_simp) True.intro ?_
              simp only [Act.put, List.setIfInBounds_toArray, List.set_cons_zero, List.set_cons_succ]
              refine take_at 20 (some 51) (.pointer (some ⟨kb, 1, none⟩)) rfl rfl (by kernel_rfl) (by kernel_rfl) (by kernel_rfl) (fun _ _ _ h => h) (by rfl) (fun W hSw => by go_simp) True.intro ?_
              simp only [Act.put, List.setIfInBounds_toArray, List.set_cons_zero, List.set_cons_succ]
              refine wpAnyH_ready (rs := [21]) (by kernel_rfl) (by simp) ?_
              refine AllReadyH.cons rfl (fun K hK => ?_) AllReadyH.nil
              have cc := hkA.c1
              have ff := hkA.f1
              go_simp
              clear cc ff
              have hkB := hkA.set1 (.slice ao15 (ns.length + 1) cap15)
              have KfB := KfA.trans (Keep.grown (grown_set wA kb 1 (.slice ao15 (ns.length + 1) cap15)) (fun b hb => Nat.lt_of_lt_of_le (hF b hb) KfA.size) (fun b e hb => hb.2.1 (by injection e with e; exact e.symm)))
              generalize hw : wA.setCell ⟨kb, 1, none⟩ (.slice ao15 (ns.length + 1) cap15) = wB at *
              clear hw
              refine hK.out _ _ ?_ (fun _ => ?_)
              · exact True.intro
              clear hK K
              refine wpAnyH_done (by kernel_rfl) ?_ _
              refine NoPanic.normal ?_
              go_wp2
              first | go_end0 | (refine bodyPost_ret (results_none rfl _ _ _) rfl ?_)
              exact ⟨rfl, _, _, by rw [HN'.out, HK'.out]; exact hkB, KfB, hv8, hv15⟩
          · go_simp
            have hz := bal (Below.refl _ w1) (.cells #[.int .i64 x] 3)
            have hk2 := hk1.later hz
            have Kf2 := Kf1.trans (Keep.of hz (fun b hb => Nat.lt_of_lt_of_le (hF b hb) Kf1.size))
            have p14 : (w1.alloc (.cells #[.int .i64 x] 3)).cell? ⟨w1.heap.size, 0, none⟩ = some (.int .i64 x) := by simp [go_sem]
            replace p7 := cell_later' p7 hz
            generalize hw : w1.alloc (.cells #[.int .i64 x] 3) = w2 at *
            clear hw hz
            refine hK.out _ _ ?_ (fun _ => ?_)
            · exact True.intro
            clear hK K
            refine wpAnyH_ready (rs := [5]) (by kernel_rfl) (by simp) ?_
            refine AllReadyH.cons rfl (fun K hK => ?_) AllReadyH.nil
            have cc := hk2.c0
            go_simp
            refine hK.out _ _ ?_ (fun _ => ?_)
            · exact True.intro
            clear hK K
            clear cc
            refine wpAnyH_ready (rs := [8]) (by kernel_rfl) (by simp) ?_
            refine AllReadyH.cons rfl (fun K hK => ?_) AllReadyH.nil
            refine step_append_at _ _ (some 40) 48 rfl rfl (by rfl) base 9 i9 (tx []) 1 16 Tryz.underlying48 hi9 hz90 hz91 hz92 rfl (by decide) (.slice na ns.length cn) _ _ rfl hk2.on ⟨w0.heap.size, 0, none⟩ 1 1 [tx s] rfl rfl (one_cell0 p7) (fun u hu => by simp at hu; subst hu; rfl) (by unfold maxLen; omega) (by omega) (Nat.le_trans hbw Kf2.size) ?_
            intro v8 w3 ho8 hg8 hl8
            have hk3 := hk2.grow8 ho8 hg8
            have Kf3 := Kf2.trans (Keep.grown hg8 (fun b hb => Nat.lt_of_lt_of_le (hF b hb) Kf2.size) (fun b e hb => hb.2.2.1 e))
            have hv8 : ∀ b, v8.ownBlock = some b → (Value.slice na ns.length cn).ownBlock = some b ∨ w.heap.size ≤ b := fun b e => by
              rcases hl8 with h1 | h1
              · exact Or.inl (h1 ▸ e)
              · rw [h1] at e; injection e with e; exact Or.inr (by have := Kf2.size; omega)
            replace p14 := grown_cell hg8 p14 (fun e => by have := hnl _ e.symm; have := Kf1.size; omega)
            obtain ⟨ao8, cap8, rfl⟩ := own_shape ho8
            clear ho8 hg8 hl8 p7
            refine hK.out _ _ ?_ (fun _ => ?_)
            · exact True.intro
            clear hK K
            refine wpAnyH_ready (rs := [15]) (by kernel_rfl) (by simp) ?_
            refine AllReadyH.cons rfl (fun K hK => ?_) AllReadyH.nil
            refine step_append_at _ _ (some 47) 27 rfl rfl (by rfl) base 3 i3 (.int .i64 0) 1 8 Tryz.underlying27 hi3 hz30 hz31 hz32 rfl (by decide) (.slice ka ns.length ck) _ _ rfl (ok_at HLK.out hk3.ok) ⟨w1.heap.size, 0, none⟩ 1 1 [.int .i64 x] rfl rfl (one_cell0 p14) (fun u hu => by simp at hu; subst hu; rfl) (by unfold maxLen; omega) (by omega) (Nat.le_trans hbw Kf3.size) ?_
            intro v15 w4 ho15 hg15 hl15
            have hk4 := hk3.grow15 HLK.out ho15 hg15
            have Kf4 := Kf3.trans (Keep.grown hg15 (fun b hb => Nat.lt_of_lt_of_le (hF b hb) Kf3.size) (fun b e hb => hb.2.2.2 e))
            have hv15 : ∀ b, v15.ownBlock = some b → (Value.slice ka ns.length ck).ownBlock = some b ∨ w.heap.size ≤ b := fun b e => by
              rcases hl15 with h1 | h1
              · exact Or.inl (h1 ▸ e)
              · rw [h1] at e; injection e with e; exact Or.inr (by have := Kf3.size; omega)
            obtain ⟨ao15, cap15, rfl⟩ := own_shape ho15
            clear ho15 hg15 hl15 p14
            refine hK.out _ _ ?_ (fun _ => ?_)
            · exact True.intro
            clear hK K
            refine take_at 16 (some 48) (.pointer (some ⟨kb, 0, none⟩)) rfl rfl (by kernel_rfl) (by kernel_rfl) (by kernel_rfl) (fun _ _ _ h => h) (by rfl) (fun W hSw => by go_simp) True.intro ?_
            simp only [Act.put, List.setIfInBounds_toArray, List.set_cons_zero, List.set_cons_succ]
            refine take_at 17 (some 49) (.pointer (some ⟨kb, 0, none⟩)) rfl rfl (by kernel_rfl) (by kernel_rfl) (by kernel_rfl) (fun _ _ _ h => h) (by rfl) (fun W hSw => by go_simp) True.intro ?_
            simp only [Act.put, List.setIfInBounds_toArray, List.set_cons_zero, List.set_cons_succ]
            refine wpAnyH_ready (rs := [18]) (by kernel_rfl) (by simp) ?_
            refine AllReadyH.cons rfl (fun K hK => ?_) AllReadyH.nil
            have cc := hk4.c0
            have ff := hk4.f0
            go_simp
            clear cc ff
            have hkA := hk4.set0 (.slice ao8 (ns.length + 1) cap8)
            have KfA := Kf4.trans (Keep.grown (grown_set w4 kb 0 (.slice ao8 (ns.length + 1) cap8)) (fun b hb => Nat.lt_of_lt_of_le (hF b hb) Kf4.size) (fun b e hb => hb.2.1 (by injection e with e; exact e.symm)))
            generalize hw : w4.setCell ⟨kb, 0, none⟩ (.slice ao8 (ns.length + 1) cap8) = wA at *
            clear hw
            refine hK.out _ _ ?_ (fun _ => ?_)
            · exact True.intro
            clear hK K
            refine take_at 19 (some 50) (.pointer (some ⟨kb, 0, none⟩)) rfl rfl (by kernel_rfl) (by kernel_rfl) (by kernel_rfl) (fun _ _ _ h => h) (by rfl) (fun W hSw => by go_simp) True.intro ?_
            simp only [Act.put, List.setIfInBounds_toArray, List.set_cons_zero, List.set_cons_succ]
            refine take_at 20 (some 51) (.pointer (some ⟨kb, 1, none⟩)) rfl rfl (by kernel_rfl) (by kernel_rfl) (by kernel_rfl) (fun _ _ _ h => h) (by rfl) (fun W hSw => by go_simp) True.intro ?_
            simp only [Act.put, List.setIfInBounds_toArray, List.set_cons_zero, List.set_cons_succ]
            refine wpAnyH_ready (rs := [21]) (by kernel_rfl) (by simp) ?_
            refine AllReadyH.cons rfl (fun K hK => ?_) AllReadyH.nil
            have cc := hkA.c1
            have ff := hkA.f1
            go_simp
            clear cc ff
            have hkB := hkA.set1 (.slice ao15 (ns.length + 1) cap15)
            have KfB := KfA.trans (Keep.grown (grown_set wA kb 1 (.slice ao15 (ns.length + 1) cap15)) (fun b hb => Nat.lt_of_lt_of_le (hF b hb) KfA.size) (fun b e hb => hb.2.1 (by injection e with e; exact e.symm)))
            generalize hw : wA.setCell ⟨kb, 1, none⟩ (.slice ao15 (ns.length + 1) cap15) = wB at *
            clear hw
            refine hK.out _ _ ?_ (fun _ => ?_)
            · exact True.intro
            clear hK K
            refine wpAnyH_done (by kernel_rfl) ?_ _
            refine NoPanic.normal ?_
            go_wp2
            first | go_end0 | (refine bodyPost_ret (results_none rfl _ _ _) rfl ?_)
            exact ⟨rfl, _, _, by rw [HN'.out, HK'.out]; exact hkB, KfB, hv8, hv15⟩
        · go_simp
          have hz := bal (Below.refl _ w1) (.cells #[.int .i64 x] 3)
          have hk2 := hk1.later hz
          have Kf2 := Kf1.trans (Keep.of hz (fun b hb => Nat.lt_of_lt_of_le (hF b hb) Kf1.size))
          have p14 : (w1.alloc (.cells #[.int .i64 x] 3)).cell? ⟨w1.heap.size, 0, none⟩ = some (.int .i64 x) := by simp [go_sem]
          replace p7 := cell_later' p7 hz
          generalize hw : w1.alloc (.cells #[.int .i64 x] 3) = w2 at *
          clear hw hz
          refine hK.out _ _ ?_ (fun _ => ?_)
          · exact True.intro
          clear hK K
          refine wpAnyH_ready (rs := [5, 12]) (by kernel_rfl) (by simp) ?_
          refine AllReadyH.cons rfl (fun K hK => ?_) (AllReadyH.cons rfl (fun K hK => ?_) AllReadyH.nil)
          · have cc := hk2.c0
            go_simp
            refine hK.out _ _ ?_ (fun _ => ?_)
            · exact True.intro
            clear hK K
            clear cc
            refine wpAnyH_ready (rs := [8, 12]) (by kernel_rfl) (by simp) ?_
            refine AllReadyH.cons rfl (fun K hK => ?_) (AllReadyH.cons rfl (fun K hK => ?_) AllReadyH.nil)
            · refine step_append_at _ _ (some 40) 48 rfl rfl (by rfl) base 9 i9 (tx []) 1 16 Tryz.underlying48 hi9 hz90 hz91 hz92 rfl (by decide) (.slice na ns.length cn) _ _ rfl hk2.on ⟨w0.heap.size, 0, none⟩ 1 1 [tx s] rfl rfl (one_cell0 p7) (fun u hu => by simp at hu; subst hu; rfl) (by unfold maxLen; omega) (by omega) (Nat.le_trans hbw Kf2.size) ?_
              intro v8 w3 ho8 hg8 hl8
              have hk3 := hk2.grow8 ho8 hg8
              have Kf3 := Kf2.trans (Keep.grown hg8 (fun b hb => Nat.lt_of_lt_of_le (hF b hb) Kf2.size) (fun b e hb => hb.2.2.1 e))
              have hv8 : ∀ b, v8.ownBlock = some b → (Value.slice na ns.length cn).ownBlock = some b ∨ w.heap.size ≤ b := fun b e => by
                rcases hl8 with h1 | h1
                · exact Or.inl (h1 ▸ e)
                · rw [h1] at e; injection e with e; exact Or.inr (by have := Kf2.size; omega)
              replace p14 := grown_cell hg8 p14 (fun e => by have := hnl _ e.symm; have := Kf1.size; omega)
              obtain ⟨ao8, cap8, rfl⟩ := own_shape ho8
              clear ho8 hg8 hl8 p7
              refine hK.out _ _ ?_ (fun _ => ?_)
              · exact True.intro
              clear hK K
              refine wpAnyH_ready (rs := [12]) (by kernel_rfl) (by simp) ?_
              refine AllReadyH.cons rfl (fun K hK => ?_) AllReadyH.nil
              have cc := hk3.c1
              go_simp
              refine hK.out _ _ ?_ (fun _ => ?_)
              · exact True.intro
              clear hK K
              clear cc
              refine wpAnyH_ready (rs := [15]) (by kernel_rfl) (by simp) ?_
              refine AllReadyH.cons rfl (fun K hK => ?_) AllReadyH.nil
              refine step_append_at _ _ (some 47) 27 rfl rfl (by rfl) base 3 i3 (.int .i64 0) 1 8 Tryz.underlying27 hi3 hz30 hz31 hz32 rfl (by decide) (.slice ka ns.length ck) _ _ rfl (ok_at HLK.out hk3.ok) ⟨w1.heap.size, 0, none⟩ 1 1 [.int .i64 x] rfl rfl (one_cell0 p14) (fun u hu => by simp at hu; subst hu; rfl) (by unfold maxLen; omega) (by omega) (Nat.le_trans hbw Kf3.size) ?_
              intro v15 w4 ho15 hg15 hl15
              have hk4 := hk3.grow15 HLK.out ho15 hg15
              have Kf4 := Kf3.trans (Keep.grown hg15 (fun b hb => Nat.lt_of_lt_of_le (hF b hb) Kf3.size) (fun b e hb => hb.2.2.2 e))
              have hv15 : ∀ b, v15.ownBlock = some b → (Value.slice ka ns.length ck).ownBlock = some b ∨ w.heap.size ≤ b := fun b e => by
                rcases hl15 with h1 | h1
                · exact Or.inl (h1 ▸ e)
                · rw [h1] at e; injection e with e; exact Or.inr (by have := Kf3.size; omega)
              obtain ⟨ao15, cap15, rfl⟩ := own_shape ho15
              clear ho15 hg15 hl15 p14
              refine hK.out _ _ ?_ (fun _ => ?_)
              · exact True.intro
              clear hK K
              refine take_at 16 (some 48) (.pointer (some ⟨kb, 0, none⟩)) rfl rfl (by kernel_rfl) (by kernel_rfl) (by kernel_rfl) (fun _ _ _ h => h) (by rfl) (fun W hSw => by go_simp) True.intro ?_
              simp only [Act.put, List.setIfInBounds_toArray, List.set_cons_zero, List.set_cons_succ]
              refine take_at 17 (some 49) (.pointer (some ⟨kb, 0, none⟩)) rfl rfl (by kernel_rfl) (by kernel_rfl) (by kernel_rfl) (fun _ _ _ h => h) (by rfl) (fun W hSw => by go_simp) True.intro ?_
              simp only [Act.put, List.setIfInBounds_toArray, List.set_cons_zero, List.set_cons_succ]
              refine wpAnyH_ready (rs := [18]) (by kernel_rfl) (by simp) ?_
              refine AllReadyH.cons rfl (fun K hK => ?_) AllReadyH.nil
              have cc := hk4.c0
              have ff := hk4.f0
              go_simp
              clear cc ff
              have hkA := hk4.set0 (.slice ao8 (ns.length + 1) cap8)
              have KfA := Kf4.trans (Keep.grown (grown_set w4 kb 0 (.slice ao8 (ns.length + 1) cap8)) (fun b hb => Nat.lt_of_lt_of_le (hF b hb) Kf4.size) (fun b e hb => hb.2.1 (by injection e with e; exact e.symm)))
              generalize hw : w4.setCell ⟨kb, 0, none⟩ (.slice ao8 (ns.length + 1) cap8) = wA at *
              clear hw
              refine hK.out _ _ ?_ (fun _ => ?_)
              · exact True.intro
              clear hK K
              refine take_at 19 (some 50) (.pointer (some ⟨kb, 0, none⟩)) rfl rfl (by kernel_rfl) (by kernel_rfl) (by kernel_rfl) (fun _ _ _ h => h) (by rfl) (fun W hSw => by go_simp) True.intro ?_
              simp only [Act.put, List.setIfInBounds_toArray, List.set_cons_zero, List.set_cons_succ]
              refine take_at 20 (some 51) (.pointer (some ⟨kb, 1, none⟩)) rfl rfl (by kernel_rfl) (by kernel_rfl) (by kernel_rfl) (fun _ _ _ h => h) (by rfl) (fun W hSw => by go_simp) True.intro ?_
              simp only [Act.put, List.setIfInBounds_toArray, List.set_cons_zero, List.set_cons_succ]
              refine wpAnyH_ready (rs := [21]) (by kernel_rfl) (by simp) ?_
              refine AllReadyH.cons rfl (fun K hK => ?_) AllReadyH.nil
              have cc := hkA.c1
              have ff := hkA.f1
              go_simp
              clear cc ff
              have hkB := hkA.set1 (.slice ao15 (ns.length + 1) cap15)
              have KfB := KfA.trans (Keep.grown (grown_set wA kb 1 (.slice ao15 (ns.length + 1) cap15)) (fun b hb => Nat.lt_of_lt_of_le (hF b hb) KfA.size) (fun b e hb => hb.2.1 (by injection e with e; exact e.symm)))
              generalize hw : wA.setCell ⟨kb, 1, none⟩ (.slice ao15 (ns.length + 1) cap15) = wB at *
              clear hw
              refine hK.out _ _ ?_ (fun _ => ?_)
              · exact True.intro
              clear hK K
              refine wpAnyH_done (by kernel_rfl) ?_ _
              refine NoPanic.normal ?_
              go_wp2
              first | go_end0 | (refine bodyPost_ret (results_none rfl _ _ _) rfl ?_)
              exact ⟨rfl, _, _, by rw [HN'.out, HK'.out]; exact hkB, KfB, hv8, hv15⟩
            · have cc := hk2.c1
              go_simp
              refine hK.out _ _ ?_ (fun _ => ?_)
              · exact True.intro
              clear hK K
              clear cc
              refine wpAnyH_ready (rs := [8]) (by kernel_rfl) (by simp) ?_
              refine AllReadyH.cons rfl (fun K hK => ?_) AllReadyH.nil
              refine step_append_at _ _ (some 40) 48 rfl rfl (by rfl) base 9 i9 (tx []) 1 16 Tryz.underlying48 hi9 hz90 hz91 hz92 rfl (by decide) (.slice na ns.length cn) _ _ rfl hk2.on ⟨w0.heap.size, 0, none⟩ 1 1 [tx s] rfl rfl (one_cell0 p7) (fun u hu => by simp at hu; subst hu; rfl) (by unfold maxLen; omega) (by omega) (Nat.le_trans hbw Kf2.size) ?_
              intro v8 w3 ho8 hg8 hl8
              have hk3 := hk2.grow8 ho8 hg8
              have Kf3 := Kf2.trans (Keep.grown hg8 (fun b hb => Nat.lt_of_lt_of_le (hF b hb) Kf2.size) (fun b e hb => hb.2.2.1 e))
              have hv8 : ∀ b, v8.ownBlock = some b → (Value.slice na ns.length cn).ownBlock = some b ∨ w.heap.size ≤ b := fun b e => by
                rcases hl8 with h1 | h1
                · exact Or.inl (h1 ▸ e)
                · rw [h1] at e; injection e with e; exact Or.inr (by have := Kf2.size; omega)
              replace p14 := grown_cell hg8 p14 (fun e => by have := hnl _ e.symm; have := Kf1.size; omega)
              obtain ⟨ao8, cap8, rfl⟩ := own_shape ho8
              clear ho8 hg8 hl8 p7
              refine hK.out _ _ ?_ (fun _ => ?_)
              · exact True.intro
              clear hK K
              refine wpAnyH_ready (rs := [15]) (by kernel_rfl) (by simp) ?_
              refine AllReadyH.cons rfl (fun K hK => ?_) AllReadyH.nil
              refine step_append_at _ _ (some 47) 27 rfl rfl (by rfl) base 3 i3 (.int .i64 0) 1 8 Tryz.underlying27 hi3 hz30 hz31 hz32 rfl (by decide) (.slice ka ns.length ck) _ _ rfl (ok_at HLK.out hk3.ok) ⟨w1.heap.size, 0, none⟩ 1 1 [.int .i64 x] rfl rfl (one_cell0 p14) (fun u hu => by simp at hu; subst hu; rfl) (by unfold maxLen; omega) (by omega) (Nat.le_trans hbw Kf3.size) ?_
              intro v15 w4 ho15 hg15 hl15
              have hk4 := hk3.grow15 HLK.out ho15 hg15
              have Kf4 := Kf3.trans (Keep.grown hg15 (fun b hb => Nat.lt_of_lt_of_le (hF b hb) Kf3.size) (fun b e hb => hb.2.2.2 e))
              have hv15 : ∀ b, v15.ownBlock = some b → (Value.slice ka ns.length ck).ownBlock = some b ∨ w.heap.size ≤ b := fun b e => by
                rcases hl15 with h1 | h1
                · exact Or.inl (h1 ▸ e)
                · rw [h1] at e; injection e with e; exact Or.inr (by have := Kf3.size; omega)
              obtain ⟨ao15, cap15, rfl⟩ := own_shape ho15
              clear ho15 hg15 hl15 p14
              refine hK.out _ _ ?_ (fun _ => ?_)
              · exact True.intro
              clear hK K
              refine take_at 16 (some 48) (.pointer (some ⟨kb, 0, none⟩)) rfl rfl (by kernel_rfl) (by kernel_rfl) (by kernel_rfl) (fun _ _ _ h => h) (by rfl) (fun W hSw => by go_simp) True.intro ?_
              simp only [Act.put, List.setIfInBounds_toArray, List.set_cons_zero, List.set_cons_succ]
              refine take_at 17 (some 49) (.pointer (some ⟨kb, 0, none⟩)) rfl rfl (by kernel_rfl) (by kernel_rfl) (by kernel_rfl) (fun _ _ _ h => h) (by rfl) (fun W hSw => by go_simp) True.intro ?_
              simp only [Act.put, List.setIfInBounds_toArray, List.set_cons_zero, List.set_cons_succ]
              refine wpAnyH_ready (rs := [18]) (by kernel_rfl) (by simp) ?_
              refine AllReadyH.cons rfl (fun K hK => ?_) AllReadyH.nil
              have cc := hk4.c0
              have ff := hk4.f0
              go_simp
              clear cc ff
              have hkA := hk4.set0 (.slice ao8 (ns.length + 1) cap8)
              have KfA := Kf4.trans (Keep.grown (grown_set w4 kb 0 (.slice ao8 (ns.length + 1) cap8)) (fun b hb => Nat.lt_of_lt_of_le (hF b hb) Kf4.size) (fun b e hb => hb.2.1 (by injection e with e; exact e.symm)))
              generalize hw : w4.setCell ⟨kb, 0, none⟩ (.slice ao8 (ns.length + 1) cap8) = wA at *
              clear hw
              refine hK.out _ _ ?_ (fun _ => ?_)
              · exact True.intro
              clear hK K
              refine take_at 19 (some 50) (.pointer (some ⟨kb, 0, none⟩)) rfl rfl (by kernel_rfl) (by kernel_rfl) (by kernel_rfl) (fun _ _ _ h => h) (by rfl) (fun W hSw => by go_simp) True.intro ?_
              simp only [Act.put, List.setIfInBounds_toArray, List.set_cons_zero, List.set_cons_succ]
              refine take_at 20 (some 51) (.pointer (some ⟨kb, 1, none⟩)) rfl rfl (by kernel_rfl) (by kernel_rfl) (by kernel_rfl) (fun _ _ _ h => h) (by rfl) (fun W hSw => by go_simp) True.intro ?_
              simp only [Act.put, List.setIfInBounds_toArray, List.set_cons_zero, List.set_cons_succ]
              refine wpAnyH_ready (rs := [21]) (by kernel_rfl) (by simp) ?_
              refine AllReadyH.cons rfl (fun K hK => ?_) AllReadyH.nil
              have cc := hkA.c1
              have ff := hkA.f1
              go_simp
              clear cc ff
              have hkB := hkA.set1 (.slice ao15 (ns.length + 1) cap15)
              have KfB := KfA.trans (Keep.grown (grown_set wA kb 1 (.slice ao15 (ns.length + 1) cap15)) (fun b hb => Nat.lt_of_lt_of_le (hF b hb) KfA.size) (fun b e hb => hb.2.1 (by injection e with e; exact e.symm)))
              generalize hw : wA.setCell ⟨kb, 1, none⟩ (.slice ao15 (ns.length + 1) cap15) = wB at *
              clear hw
              refine hK.out _ _ ?_ (fun _ => ?_)
              · exact True.intro
              clear hK K
              refine wpAnyH_done (by kernel_rfl) ?_ _
              refine NoPanic.normal ?_
              go_wp2
              first | go_end0 | (refine bodyPost_ret (results_none rfl _ _ _) rfl ?_)
              exact ⟨rfl, _, _, by rw [HN'.out, HK'.out]; exact hkB, KfB, hv8, hv15⟩
          · have cc := hk2.c1
            go_simp
            refine hK.out _ _ ?_ (fun _ => ?_)
            · exact True.intro
            clear hK K
            clear cc
            refine wpAnyH_ready (rs := [5]) (by kernel_rfl) (by simp) ?_
            refine AllReadyH.cons rfl (fun K hK => ?_) AllReadyH.nil
            have cc := hk2.c0
            go_simp
            refine hK.out _ _ ?_ (fun _ => ?_)
            · exact True.intro
            clear hK K
            clear cc
            refine wpAnyH_ready (rs := [8]) (by kernel_rfl) (by simp) ?_
            refine AllReadyH.cons rfl (fun K hK => ?_) AllReadyH.nil
            refine step_append_at _ _ (some 40) 48 rfl rfl (by rfl) base 9 i9 (tx []) 1 16 Tryz.underlying48 hi9 hz90 hz91 hz92 rfl (by decide) (.slice na ns.length cn) _ _ rfl hk2.on ⟨w0.heap.size, 0, none⟩ 1 1 [tx s] rfl rfl (one_cell0 p7) (fun u hu => by simp at hu; subst hu; rfl) (by unfold maxLen; omega) (by omega) (Nat.le_trans hbw Kf2.size) ?_
            intro v8 w3 ho8 hg8 hl8
            have hk3 := hk2.grow8 ho8 hg8
            have Kf3 := Kf2.trans (Keep.grown hg8 (fun b hb => Nat.lt_of_lt_of_le (hF b hb) Kf2.size) (fun b e hb => hb.2.2.1 e))
            have hv8 : ∀ b, v8.ownBlock = some b → (Value.slice na ns.length cn).ownBlock = some b ∨ w.heap.size ≤ b := fun b e => by
              rcases hl8 with h1 | h1
              · exact Or.inl (h1 ▸ e)
              · rw [h1] at e; injection e with e; exact Or.inr (by have := Kf2.size; omega)
            replace p14 := grown_cell hg8 p14 (fun e => by have := hnl _ e.symm; have := Kf1.size; omega)
            obtain ⟨ao8, cap8, rfl⟩ := own_shape ho8
            clear ho8 hg8 hl8 p7
            refine hK.out _ _ ?_ (fun _ => ?_)
            · exact True.intro
            clear hK K
            refine wpAnyH_ready (rs := [15]) (by kernel_rfl) (by simp) ?_
            refine AllReadyH.cons rfl (fun K hK => ?_) AllReadyH.nil
            refine step_append_at _ _ (some 47) 27 rfl rfl (by rfl) base 3 i3 (.int .i64 0) 1 8 Tryz.underlying27 hi3 hz30 hz31 hz32 rfl (by decide) (.slice ka ns.length ck) _ _ rfl (ok_at HLK.out hk3.ok) ⟨w1.heap.size, 0, none⟩ 1 1 [.int .i64 x] rfl rfl (one_cell0 p14) (fun u hu => by simp at hu; subst hu; rfl) (by unfold maxLen; omega) (by omega) (Nat.le_trans hbw Kf3.size) ?_
            intro v15 w4 ho15 hg15 hl15
            have hk4 := hk3.grow15 HLK.out ho15 hg15
            have Kf4 := Kf3.trans (Keep.grown hg15 (fun b hb => Nat.lt_of_lt_of_le (hF b hb) Kf3.size) (fun b e hb => hb.2.2.2 e))
            have hv15 : ∀ b, v15.ownBlock = some b → (Value.slice ka ns.length ck).ownBlock = some b ∨ w.heap.size ≤ b := fun b e => by
              rcases hl15 with h1 | h1
              · exact Or.inl (h1 ▸ e)
              · rw [h1] at e; injection e with e; exact Or.inr (by have := Kf3.size; omega)
            obtain ⟨ao15, cap15, rfl⟩ := own_shape ho15
            clear ho15 hg15 hl15 p14
            refine hK.out _ _ ?_ (fun _ => ?_)
            · exact True.intro
            clear hK K
            refine take_at 16 (some 48) (.pointer (some ⟨kb, 0, none⟩)) rfl rfl (by kernel_rfl) (by kernel_rfl) (by kernel_rfl) (fun _ _ _ h => h) (by rfl) (fun W hSw => by go_simp) True.intro ?_
            simp only [Act.put, List.setIfInBounds_toArray, List.set_cons_zero, List.set_cons_succ]
            refine take_at 17 (some 49) (.pointer (some ⟨kb, 0, none⟩)) rfl rfl (by kernel_rfl) (by kernel_rfl) (by kernel_rfl) (fun _ _ _ h => h) (by rfl) (fun W hSw => by go_simp) True.intro ?_
            simp only [Act.put, List.setIfInBounds_toArray, List.set_cons_zero, List.set_cons_succ]
            refine wpAnyH_ready (rs := [18]) (by kernel_rfl) (by simp) ?_
            refine AllReadyH.cons rfl (fun K hK => ?_) AllReadyH.nil
            have cc := hk4.c0
            have ff := hk4.f0
            go_simp
            clear cc ff
            have hkA := hk4.set0 (.slice ao8 (ns.length + 1) cap8)
            have KfA := Kf4.trans (Keep.grown (grown_set w4 kb 0 (.slice ao8 (ns.length + 1) cap8)) (fun b hb => Nat.lt_of_lt_of_le (hF b hb) Kf4.size) (fun b e hb => hb.2.1 (by injection e with e; exact e.symm)))
            generalize hw : w4.setCell ⟨kb, 0, none⟩ (.slice ao8 (ns.length + 1) cap8) = wA at *
            clear hw
            refine hK.out _ _ ?_ (fun _ => ?_)
            · exact True.intro
            clear hK K
            refine take_at 19 (some 50) (.pointer (some ⟨kb, 0, none⟩)) rfl rfl (by kernel_rfl) (by kernel_rfl) (by kernel_rfl) (fun _ _ _ h => h) (by rfl) (fun W hSw => by go_simp) True.intro ?_
            simp only [Act.put, List.setIfInBounds_toArray, List.set_cons_zero, List.set_cons_succ]
            refine take_at 20 (some 51) (.pointer (some ⟨kb, 1, none⟩)) rfl rfl (by kernel_rfl) (by kernel_rfl) (by kernel_rfl) (fun _ _ _ h => h) (by rfl) (fun W hSw => by go_simp) True.intro ?_
            simp only [Act.put, List.setIfInBounds_toArray, List.set_cons_zero, List.set_cons_succ]
            refine wpAnyH_ready (rs := [21]) (by kernel_rfl) (by simp) ?_
            refine AllReadyH.cons rfl (fun K hK => ?_) AllReadyH.nil
            have cc := hkA.c1
            have ff := hkA.f1
            go_simp
            clear cc ff
            have hkB := hkA.set1 (.slice ao15 (ns.length + 1) cap15)
            have KfB := KfA.trans (Keep.grown (grown_set wA kb 1 (.slice ao15 (ns.length + 1) cap15)) (fun b hb => Nat.lt_of_lt_of_le (hF b hb) KfA.size) (fun b e hb => hb.2.1 (by injection e with e; exact e.symm)))
            generalize hw : wA.setCell ⟨kb, 1, none⟩ (.slice ao15 (ns.length + 1) cap15) = wB at *
            clear hw
            refine hK.out _ _ ?_ (fun _ => ?_)
            · exact True.intro
            clear hK K
            refine wpAnyH_done (by kernel_rfl) ?_ _
            refine NoPanic.normal ?_
            go_wp2
            first | go_end0 | (refine bodyPost_ret (results_none rfl _ _ _) rfl ?_)
            exact ⟨rfl, _, _, by rw [HN'.out, HK'.out]; exact hkB, KfB, hv8, hv15⟩
      · have cc := hk0.c1
        go_simp
        refine hK.out _ _ ?_ (fun _ => ?_)
        · exact True.intro
        clear hK K
        clear cc
        refine wpAnyH_ready (rs := [5, 7, 14]) (by kernel_rfl) (by simp) ?_
        refine AllReadyH.cons rfl (fun K hK => ?_) (AllReadyH.cons rfl (fun K hK => ?_) (AllReadyH.cons rfl (fun K hK => ?_) AllReadyH.nil))
        · have cc := hk0.c0
          go_simp
          refine hK.out _ _ ?_ (fun _ => ?_)
          · exact True.intro
          clear hK K
          clear cc
          refine wpAnyH_ready (rs := [7, 14]) (by kernel_rfl) (by simp) ?_
          refine AllReadyH.cons rfl (fun K hK => ?_) (AllReadyH.cons rfl (fun K hK => ?_) AllReadyH.nil)
          · go_simp
            have hz := bal (Below.refl _ w0) (.cells #[tx s] 9)
            have hk1 := hk0.later hz
            have Kf1 := Kf0.trans (Keep.of hz (fun b hb => Nat.lt_of_lt_of_le (hF b hb) Kf0.size))
            have p7 : (w0.alloc (.cells #[tx s] 9)).cell? ⟨w0.heap.size, 0, none⟩ = some (tx s) := by simp [go_sem]
            generalize hw : w0.alloc (.cells #[tx s] 9) = w1 at *
            clear hw hz
            refine hK.out _ _ ?_ (fun _ => ?_)
            · exact True.intro
            clear hK K
            refine wpAnyH_ready (rs := [8, 14]) (by kernel_rfl) (by simp) ?_
            refine AllReadyH.cons rfl (fun K hK => ?_) (AllReadyH.cons rfl (fun K hK => ?_) AllReadyH.nil)
            · refine step_append_at _ _ (some 40) 48 rfl rfl (by rfl) base 9 i9 (tx []) 1 16 Tryz.underlying48 hi9 hz90 hz91 hz92 rfl (by decide) (.slice na ns.length cn) _ _ rfl hk1.on ⟨w0.heap.size, 0, none⟩ 1 1 [tx s] rfl rfl (one_cell0 p7) (fun u hu => by simp at hu; subst hu; rfl) (by unfold maxLen; omega) (by omega) (Nat.le_trans hbw Kf1.size) ?_
              intro v8 w2 ho8 hg8 hl8
              have hk2 := hk1.grow8 ho8 hg8
              have Kf2 := Kf1.trans (Keep.grown hg8 (fun b hb => Nat.lt_of_lt_of_le (hF b hb) Kf1.size) (fun b e hb => hb.2.2.1 e))
              have hv8 : ∀ b, v8.ownBlock = some b → (Value.slice na ns.length cn).ownBlock = some b ∨ w.heap.size ≤ b := fun b e => by
                rcases hl8 with h1 | h1
                · exact Or.inl (h1 ▸ e)
                · rw [h1] at e; injection e with e; exact Or.inr (by have := Kf1.size; omega)
              obtain ⟨ao8, cap8, rfl⟩ := own_shape ho8
              clear ho8 hg8 hl8 p7
              refine hK.out _ _ ?_ (fun _ => ?_)
              · exact True.intro
              clear hK K
              refine wpAnyH_ready (rs := [14]) (by kernel_rfl) (by simp) ?_
              refine AllReadyH.cons rfl (fun K hK => ?_) AllReadyH.nil
              go_simp
              have hz := bal (Below.refl _ w2) (.cells #[.int .i64 x] 3)
              have hk3 := hk2.later hz
              have Kf3 := Kf2.trans (Keep.of hz (fun b hb => Nat.lt_of_lt_of_le (hF b hb) Kf2.size))
              have p14 : (w2.alloc (.cells #[.int .i64 x] 3)).cell? ⟨w2.heap.size, 0, none⟩ = some (.int .i64 x) := by simp [go_sem]
              generalize hw : w2.alloc (.cells #[.int .i64 x] 3) = w3 at *
              clear hw hz
              refine hK.out _ _ ?_ (fun _ => ?_)
              · exact True.intro
              clear hK K
              refine wpAnyH_ready (rs := [15]) (by kernel_rfl) (by simp) ?_
              refine AllReadyH.cons rfl (fun K hK => ?_) AllReadyH.nil
              refine step_append_at _ _ (some 47) 27 rfl rfl (by rfl) base 3 i3 (.int .i64 0) 1 8 Tryz.underlying27 hi3 hz30 hz31 hz32 rfl (by decide) (.slice ka ns.length ck) _ _ rfl (ok_at HLK.out hk3.ok) ⟨w2.heap.size, 0, none⟩ 1 1 [.int .i64 x] rfl rfl (one_cell0 p14) (fun u hu => by simp at hu; subst hu; rfl) (by unfold maxLen; omega) (by omega) (Nat.le_trans hbw Kf3.size) ?_
              intro v15 w4 ho15 hg15 hl15
              have hk4 := hk3.grow15 HLK.out ho15 hg15
              have Kf4 := Kf3.trans (Keep.grown hg15 (fun b hb => Nat.lt_of_lt_of_le (hF b hb) Kf3.size) (fun b e hb => hb.2.2.2 e))
              have hv15 : ∀ b, v15.ownBlock = some b → (Value.slice ka ns.length ck).ownBlock = some b ∨ w.heap.size ≤ b := fun b e => by
                rcases hl15 with h1 | h1
                · exact Or.inl (h1 ▸ e)
                · rw [h1] at e; injection e with e; exact Or.inr (by have := Kf3.size; omega)
              obtain ⟨ao15, cap15, rfl⟩ := own_shape ho15
              clear ho15 hg15 hl15 p14
              refine hK.out _ _ ?_ (fun _ => ?_)
              · exact True.intro
              clear hK K
              refine take_at 16 (some 48) (.pointer (some ⟨kb, 0, none⟩)) rfl rfl (by kernel_rfl) (by kernel_rfl) (by kernel_rfl) (fun _ _ _ h => h) (by rfl) (fun W hSw => by go_simp) True.intro ?_
              simp only [Act.put, List.setIfInBounds_toArray, List.set_cons_zero, List.set_cons_succ]
              refine take_at 17 (some 49) (.pointer (some ⟨kb, 0, none⟩)) rfl rfl (by kernel_rfl) (by kernel_rfl) (by kernel_rfl) (fun _ _ _ h => h) (by rfl) (fun W hSw => by go_simp) True.intro ?_
              simp only [Act.put, List.setIfInBounds_toArray, List.set_cons_zero, List.set_cons_succ]
              refine wpAnyH_ready (rs := [18]) (by kernel_rfl) (by simp) ?_
              refine AllReadyH.cons rfl (fun K hK => ?_) AllReadyH.nil
              have cc := hk4.c0
              have ff := hk4.f0
              go_simp
              clear cc ff
              have hkA := hk4.set0 (.slice ao8 (ns.length + 1) cap8)
              have KfA := Kf4.trans (Keep.grown (grown_set w4 kb 0 (.slice ao8 (ns.length + 1) cap8)) (fun b hb => Nat.lt_of_lt_of_le (hF b hb) Kf4.size) (fun b e hb => hb.2.1 (by injection e with e; exact e.symm)))
              generalize hw : w4.setCell ⟨kb, 0, none⟩ (.slice ao8 (ns.length + 1) cap8) = wA at *
              clear hw
              refine hK.out _ _ ?_ (fun _ => ?_)
              · exact True.intro
              clear hK K
              refine take_at 19 (some 50) (.pointer (some ⟨kb, 0, none⟩)) rfl rfl (by kernel_rfl) (by kernel_rfl) (by kernel_rfl) (fun _ _ _ h => h) (by rfl) (fun W hSw => by go_simp) True.intro ?_
              simp only [Act.put, List.setIfInBounds_toArray, List.set_cons_zero, List.set_cons_succ]
              refine take_at 20 (some 51) (.pointer (some ⟨kb, 1, none⟩)) rfl rfl (by kernel_rfl) (by kernel_rfl) (by kernel_rfl) (fun _ _ _ h => h) (by rfl) (fun W hSw => by go_simp) True.intro ?_
              simp only [Act.put, List.setIfInBounds_toArray, List.set_cons_zero, List.set_cons_succ]
              refine wpAnyH_ready (rs := [21]) (by kernel_rfl) (by simp) ?_
              refine AllReadyH.cons rfl (fun K hK => ?_) AllReadyH.nil
              have cc := hkA.c1
              have ff := hkA.f1
              go_simp
              clear cc ff
              have hkB := hkA.set1 (.slice ao15 (ns.length + 1) cap15)
              have KfB := KfA.trans (Keep.grown (grown_set wA kb 1 (.slice ao15 (ns.length + 1) cap15)) (fun b hb => Nat.lt_of_lt_of_le (hF b hb) KfA.size) (fun b e hb => hb.2.1 (by injection e with e; exact e.symm)))
              generalize hw : wA.setCell ⟨kb, 1, none⟩ (.slice ao15 (ns.length + 1) cap15) = wB at *
              clear hw
              refine hK.out _ _ ?_ (fun _ => ?_)
              · exact True.intro
              clear hK K
              refine wpAnyH_done (by kernel_rfl) ?_ _
              refine NoPanic.normal ?_
              go_wp2
              first | go_end0 | (refine bodyPost_ret (results_none rfl _ _ _) rfl ?_)
              exact ⟨rfl, _, _, by rw [HN'.out, HK'.out]; exact hkB, KfB, hv8, hv15⟩
            · go_simp
              have hz := bal (Below.refl _ w1) (.cells #[.int .i64 x] 3)
              have hk2 := hk1.later hz
              have Kf2 := Kf1.trans (Keep.of hz (fun b hb => Nat.lt_of_lt_of_le (hF b hb) Kf1.size))
              have p14 : (w1.alloc (.cells #[.int .i64 x] 3)).cell? ⟨w1.heap.size, 0, none⟩ = some (.int .i64 x) := by simp [go_sem]
              replace p7 := cell_later' p7 hz
              generalize hw : w1.alloc (.cells #[.int .i64 x] 3) = w2 at *
              clear hw hz
              refine hK.out _ _ ?_ (fun _ => ?_)
              · exact True.intro
              clear hK K
              refine wpAnyH_ready (rs := [8]) (by kernel_rfl) (by simp) ?_
              refine AllReadyH.cons rfl (fun K hK => ?_) AllReadyH.nil
              refine step_append_at _ _ (some 40) 48 rfl rfl (by rfl) base 9 i9 (tx []) 1 16 Tryz.underlying48 hi9 hz90 hz91 hz92 rfl (by decide) (.slice na ns.length cn) _ _ rfl hk2.on ⟨w0.heap.size, 0, none⟩ 1 1 [tx s] rfl rfl (one_cell0 p7) (fun u hu => by simp at hu; subst hu; rfl) (by unfold maxLen; omega) (by omega) (Nat.le_trans hbw Kf2.size) ?_
              intro v8 w3 ho8 hg8 hl8
              have hk3 := hk2.grow8 ho8 hg8
              have Kf3 := Kf2.trans (Keep.grown hg8 (fun b hb => Nat.lt_of_lt_of_le (hF b hb) Kf2.size) (fun b e hb => hb.2.2.1 e))
              have hv8 : ∀ b, v8.ownBlock = some b → (Value.slice na ns.length cn).ownBlock = some b ∨ w.heap.size ≤ b := fun b e => by
                rcases hl8 with h1 | h1
                · exact Or.inl (h1 ▸ e)
                · rw [h1] at e; injection e with e; exact Or.inr (by have := Kf2.size; omega)
              replace p14 := grown_cell hg8 p14 (fun e => by have := hnl _ e.symm; have := Kf1.size; omega)
              obtain ⟨ao8, cap8, rfl⟩ := own_shape ho8
              clear ho8 hg8 hl8 p7
              refine hK.out _ _ ?_ (fun _ => ?_)
              · exact True.intro
              clear hK K
              refine wpAnyH_ready (rs := [15]) (by kernel_rfl) (by simp) ?_
              refine AllReadyH.cons rfl (fun K hK => ?_) AllReadyH.nil
              refine step_append_at _ _ (some 47) 27 rfl rfl (by rfl) base 3 i3 (.int .i64 0) 1 8 Tryz.underlying27 hi3 hz30 hz31 hz32 rfl (by decide) (.slice ka ns.length ck) _ _ rfl (ok_at HLK.out hk3.ok) ⟨w1.heap.size, 0, none⟩ 1 1 [.int .i64 x] rfl rfl (one_cell0 p14) (fun u hu => by simp at hu; subst hu; rfl) (by unfold maxLen; omega) (by omega) (Nat.le_trans hbw Kf3.size) ?_
              intro v15 w4 ho15 hg15 hl15
              have hk4 := hk3.grow15 HLK.out ho15 hg15
              have Kf4 := Kf3.trans (Keep.grown hg15 (fun b hb => Nat.lt_of_lt_of_le (hF b hb) Kf3.size) (fun b e hb => hb.2.2.2 e))
              have hv15 : ∀ b, v15.ownBlock = some b → (Value.slice ka ns.length ck).ownBlock = some b ∨ w.heap.size ≤ b := fun b e => by
                rcases hl15 with h1 | h1
                · exact Or.inl (h1 ▸ e)
                · rw [h1] at e; injection e with e; exact Or.inr (by have := Kf3.size; omega)
              obtain ⟨ao15, cap15, rfl⟩ := own_shape ho15
              clear ho15 hg15 hl15 p14
              refine hK.out _ _ ?_ (fun _ => ?_)
              · exact True.intro
              clear hK K
              refine take_at 16 (some 48) (.pointer (some ⟨kb, 0, none⟩)) rfl rfl (by kernel_rfl) (by kernel_rfl) (by kernel_rfl) (fun _ _ _ h => h) (by rfl) (fun W hSw => by go_simp) True.intro ?_
              simp only [Act.put, List.setIfInBounds_toArray, List.set_cons_zero, List.set_cons_succ]
              refine take_at 17 (some 49) (.pointer (some ⟨kb, 0, none⟩)) rfl rfl (by kernel_rfl) (by kernel_rfl) (by kernel_rfl) (fun _ _ _ h => h) (by rfl) (fun W hSw => by go_simp) True.intro ?_
              simp only [Act.put, List.setIfInBounds_toArray, List.set_cons_zero, List.set_cons_succ]
              refine wpAnyH_ready (rs := [18]) (by kernel_rfl) (by simp) ?_
              refine AllReadyH.cons rfl (fun K hK => ?_) AllReadyH.nil
              have cc := hk4.c0
              have ff := hk4.f0
              go_simp
              clear cc ff
              have hkA := hk4.set0 (.slice ao8 (ns.length + 1) cap8)
              have KfA := Kf4.trans (Keep.grown (grown_set w4 kb 0 (.slice ao8 (ns.length + 1) cap8)) (fun b hb => Nat.lt_of_lt_of_le (hF b hb) Kf4.size) (fun b e hb => hb.2.1 (by injection e with e; exact e.symm)))
              generalize hw : w4.setCell ⟨kb, 0, none⟩ (.slice ao8 (ns.length + 1) cap8) = wA at *
              clear hw
              refine hK.out _ _ ?_ (fun _ => ?_)
              · exact True.intro
              clear hK K
              refine take_at 19 (some 50) (.pointer (some ⟨kb, 0, none⟩)) rfl rfl (by kernel_rfl) (by kernel_rfl) (by kernel_rfl) (fun _ _ _ h => h) (by rfl) (fun W hSw => by go_simp) True.intro ?_
              simp only [Act.put, List.setIfInBounds_toArray, List.set_cons_zero, List.set_cons_succ]
              refine take_at 20 (some 51) (.pointer (some ⟨kb, 1, none⟩)) rfl rfl (by kernel_rfl) (by kernel_rfl) (by kernel_rfl) (fun _ _ _ h => h) (by rfl) (fun W hSw => by go_simp) True.intro ?_
              simp only [Act.put, List.setIfInBounds_toArray, List.set_cons_zero, List.set_cons_succ]
              refine wpAnyH_ready (rs := [21]) (by kernel_rfl) (by simp) ?_
              refine AllReadyH.cons rfl (fun K hK => ?_) AllReadyH.nil
              have cc := hkA.c1
              have ff := hkA.f1
              go_simp
              clear cc ff
              have hkB := hkA.set1 (.slice ao15 (ns.length + 1) cap15)
              have KfB := KfA.trans (Keep.grown (grown_set wA kb 1 (.slice ao15 (ns.length + 1) cap15)) (fun b hb => Nat.lt_of_lt_of_le (hF b hb) KfA.size) (fun b e hb => hb.2.1 (by injection e with e; exact e.symm)))
              generalize hw : wA.setCell ⟨kb, 1, none⟩ (.slice ao15 (ns.length + 1) cap15) = wB at *
              clear hw
              refine hK.out _ _ ?_ (fun _ => ?_)
              · exact True.intro
              clear hK K
              refine wpAnyH_done (by kernel_rfl) ?_ _
              refine NoPanic.normal ?_
              go_wp2
              first | go_end0 | (refine bodyPost_ret (results_none rfl _ _ _) rfl ?_)
              exact ⟨rfl, _, _, by rw [HN'.out, HK'.out]; exact hkB, KfB, hv8, hv15⟩
          · go_simp
            have hz := bal (Below.refl _ w0) (.cells #[.int .i64 x] 3)
            have hk1 := hk0.later hz
            have Kf1 := Kf0.trans (Keep.of hz (fun b hb => Nat.lt_of_lt_of_le (hF b hb) Kf0.size))
            have p14 : (w0.alloc (.cells #[.int .i64 x] 3)).cell? ⟨w0.heap.size, 0, none⟩ = some (.int .i64 x) := by simp [go_sem]
            generalize hw : w0.alloc (.cells #[.int .i64 x] 3) = w1 at *
            clear hw hz
            refine hK.out _ _ ?_ (fun _ => ?_)
            · exact True.intro
            clear hK K
            refine wpAnyH_ready (rs := [7]) (by kernel_rfl) (by simp) ?_
            refine AllReadyH.cons rfl (fun K hK => ?_) AllReadyH.nil
            go_simp
            have hz := bal (Below.refl _ w1) (.cells #[tx s] 9)
            have hk2 := hk1.later hz
            have Kf2 := Kf1.trans (Keep.of hz (fun b hb => Nat.lt_of_lt_of_le (hF b hb) Kf1.size))
            have p7 : (w1.alloc (.cells #[tx s] 9)).cell? ⟨w1.heap.size, 0, none⟩ = some (tx s) := by simp [go_sem]
            replace p14 := cell_later' p14 hz
            generalize hw : w1.alloc (.cells #[tx s] 9) = w2 at *
            clear hw hz
            refine hK.out _ _ ?_ (fun _ => ?_)
            · exact True.intro
            clear hK K
            refine wpAnyH_ready (rs := [8]) (by kernel_rfl) (by simp) ?_
            refine AllReadyH.cons rfl (fun K hK => ?_) AllReadyH.nil
            refine step_append_at _ _ (some 40) 48 rfl rfl (by rfl) base 9 i9 (tx []) 1 16 Tryz.underlying48 hi9 hz90 hz91 hz92 rfl (by decide) (.slice na ns.length cn) _ _ rfl hk2.on ⟨w1.heap.size, 0, none⟩ 1 1 [tx s] rfl rfl (one_cell0 p7) (fun u hu => by simp at hu; subst hu; rfl) (by unfold maxLen; omega) (by omega) (Nat.le_trans hbw Kf2.size) ?_
            intro v8 w3 ho8 hg8 hl8
            have hk3 := hk2.grow8 ho8 hg8
            have Kf3 := Kf2.trans (Keep.grown hg8 (fun b hb => Nat.lt_of_lt_of_le (hF b hb) Kf2.size) (fun b e hb => hb.2.2.1 e))
            have hv8 : ∀ b, v8.ownBlock = some b → (Value.slice na ns.length cn).ownBlock = some b ∨ w.heap.size ≤ b := fun b e => by
              rcases hl8 with h1 | h1
              · exact Or.inl (h1 ▸ e)
              · rw [h1] at e; injection e with e; exact Or.inr (by have := Kf2.size; omega)
            replace p14 := grown_cell hg8 p14 (fun e => by have := hnl _ e.symm; have := Kf0.size; omega)
            obtain ⟨ao8, cap8, rfl⟩ := own_shape ho8
            clear ho8 hg8 hl8 p7
            refine hK.out _ _ ?_ (fun _ => ?_)
            · exact True.intro
            clear hK K
            refine wpAnyH_ready (rs := [15]) (by kernel_rfl) (by simp) ?_
            refine AllReadyH.cons rfl (fun K hK => ?_) AllReadyH.nil
            refine step_append_at _ _ (some 47) 27 rfl rfl (by rfl) base 3 i3 (.int .i64 0) 1 8 Tryz.underlying27 hi3 hz30 hz31 hz32 rfl (by decide) (.slice ka ns.length ck) _ _ rfl (ok_at HLK.out hk3.ok) ⟨w0.heap.size, 0, none⟩ 1 1 [.int .i64 x] rfl rfl (one_cell0 p14) (fun u hu => by simp at hu; subst hu; rfl) (by unfold maxLen; omega) (by omega) (Nat.le_trans hbw Kf3.size) ?_
            intro v15 w4 ho15 hg15 hl15
            have hk4 := hk3.grow15 HLK.out ho15 hg15
            have Kf4 := Kf3.trans (Keep.grown hg15 (fun b hb => Nat.lt_of_lt_of_le (hF b hb) Kf3.size) (fun b e hb => hb.2.2.2 e))
            have hv15 : ∀ b, v15.ownBlock = some b → (Value.slice ka ns.length ck).ownBlock = some b ∨ w.heap.size ≤ b := fun b e => by
              rcases hl15 with h1 | h1
              · exact Or.inl (h1 ▸ e)
              · rw [h1] at e; injection e with e; exact Or.inr (by have := Kf3.size; omega)
            obtain ⟨ao15, cap15, rfl⟩ := own_shape ho15
            clear ho15 hg15 hl15 p14
            refine hK.out _ _ ?_ (fun _ => ?_)
            · exact True.intro
            clear hK K
            refine take_at 16 (some 48) (.pointer (some ⟨kb, 0, none⟩)) rfl rfl (by kernel_rfl) (by kernel_rfl) (by kernel_rfl) (fun _ _ _ h => h) (by rfl) (fun W hSw => by go_simp) True.intro ?_
            simp only [Act.put, List.setIfInBounds_toArray, List.set_cons_zero, List.set_cons_succ]
            refine take_at 17 (some 49) (.pointer (some ⟨kb, 0, none⟩)) rfl rfl (by kernel_rfl) (by kernel_rfl) (by kernel_rfl) (fun _ _ _ h => h) (by rfl) (fun W hSw => by go_simp) True.intro ?_
            simp only [Act.put, List.setIfInBounds_toArray, List.set_cons_zero, List.set_cons_succ]
            refine wpAnyH_ready (rs := [18]) (by kernel_rfl) (by simp) ?_
            refine AllReadyH.cons rfl (fun K hK => ?_) AllReadyH.nil
            have cc := hk4.c0
            have ff := hk4.f0
            go_simp
            clear cc ff
            have hkA := hk4.set0 (.slice ao8 (ns.length + 1) cap8)
            have KfA := Kf4.trans (Keep.grown (grown_set w4 kb 0 (.slice ao8 (ns.length + 1) cap8)) (fun b hb => Nat.lt_of_lt_of_le (hF b hb) Kf4.size) (fun b e hb => hb.2.1 (by injection e with e; exact e.symm)))
            generalize hw : w4.setCell ⟨kb, 0, none⟩ (.slice ao8 (ns.length + 1) cap8) = wA at *
            clear hw
            refine hK.out _ _ ?_ (fun _ => ?_)
            · exact True.intro
            clear hK K
            refine take_at 19 (some 50) (.pointer (some ⟨kb, 0, none⟩)) rfl rfl (by kernel_rfl) (by kernel_rfl) (by kernel_rfl) (fun _ _ _ h => h) (by rfl) (fun W hSw => by go_simp) True.intro ?_
            simp only [Act.put, List.setIfInBounds_toArray, List.set_cons_zero, List.set_cons_succ]
            refine take_at 20 (some 51) (.pointer (some ⟨kb, 1, none⟩)) rfl rfl (by kernel_rfl) (by kernel_rfl) (by kernel_rfl) (fun _ _ _ h => h) (by rfl) (fun W hSw => by go_simp) True.intro ?_
            simp only [Act.put, List.setIfInBounds_toArray, List.set_cons_zero, List.set_cons_succ]
            refine wpAnyH_ready (rs := [21]) (by kernel_rfl) (by simp) ?_
            refine AllReadyH.cons rfl (fun K hK => ?_) AllReadyH.nil
            have cc := hkA.c1
            have ff := hkA.f1
            go_simp
            clear cc ff
            have hkB := hkA.set1 (.slice ao15 (ns.length + 1) cap15)
            have KfB := KfA.trans (Keep.grown (grown_set wA kb 1 (.slice ao15 (ns.length + 1) cap15)) (fun b hb => Nat.lt_of_lt_of_le (hF b hb) KfA.size) (fun b e hb => hb.2.1 (by injection e with e; exact e.symm)))
            generalize hw : wA.setCell ⟨kb, 1, none⟩ (.slice ao15 (ns.length + 1) cap15) = wB at *
            clear hw
            refine hK.out _ _ ?_ (fun _ => ?_)
            · exact True.intro
            clear hK K
            refine wpAnyH_done (by kernel_rfl) ?_ _
            refine NoPanic.normal ?_
            go_wp2
            first | go_end0 | (refine bodyPost_ret (results_none rfl _ _ _) rfl ?_)
            exact ⟨rfl, _, _, by rw [HN'.out, HK'.out]; exact hkB, KfB, hv8, hv15⟩
        · go_simp
          have hz := bal (Below.refl _ w0) (.cells #[tx s] 9)
          have hk1 := hk0.later hz
          have Kf1 := Kf0.trans (Keep.of hz (fun b hb => Nat.lt_of_lt_of_le (hF b hb) Kf0.size))
          have p7 : (w0.alloc (.cells #[tx s] 9)).cell? ⟨w0.heap.size, 0, none⟩ = some (tx s) := by simp [go_sem]
          generalize hw : w0.alloc (.cells #[tx s] 9) = w1 at *
          clear hw hz
          refine hK.out _ _ ?_ (fun _ => ?_)
          · exact True.intro
          clear hK K
          refine wpAnyH_ready (rs := [5, 14]) (by kernel_rfl) (by simp) ?_
          refine AllReadyH.cons rfl (fun K hK => ?_) (AllReadyH.cons rfl (fun K hK => ?_) AllReadyH.nil)
          · have cc := hk1.c0
            go_simp
            refine hK.out _ _ ?_ (fun _ => ?_)
            · exact True.intro
            clear hK K
            clear cc
            refine wpAnyH_ready (rs := [8, 14]) (by kernel_rfl) (by simp) ?_
            refine AllReadyH.cons rfl (fun K hK => ?_) (AllReadyH.cons rfl (fun K hK => ?_) AllReadyH.nil)
            · refine step_append_at _ _ (some 40) 48 rfl rfl (by rfl) base 9 i9 (tx []) 1 16 Tryz.underlying48 hi9 hz90 hz91 hz92 rfl (by decide) (.slice na ns.length cn) _ _ rfl hk1.on ⟨w0.heap.size, 0, none⟩ 1 1 [tx s] rfl rfl (one_cell0 p7) (fun u hu => by simp at hu; subst hu; rfl) (by unfold maxLen; omega) (by omega) (Nat.le_trans hbw Kf1.size) ?_
              intro v8 w2 ho8 hg8 hl8
              have hk2 := hk1.grow8 ho8 hg8
              have Kf2 := Kf1.trans (Keep.grown hg8 (fun b hb => Nat.lt_of_lt_of_le (hF b hb) Kf1.size) (fun b e hb => hb.2.2.1 e))
              have hv8 : ∀ b, v8.ownBlock = some b → (Value.slice na ns.length cn).ownBlock = some b ∨ w.heap.size ≤ b := fun b e => by
                rcases hl8 with h1 | h1
                · exact Or.inl (h1 ▸ e)
                · rw [h1] at e; injection e with e; exact Or.inr (by have := Kf1.size; omega)
              obtain ⟨ao8, cap8, rfl⟩ := own_shape ho8
              clear ho8 hg8 hl8 p7
              refine hK.out _ _ ?_ (fun _ => ?_)
              · exact True.intro
              clear hK K
              refine wpAnyH_ready (rs := [14]) (by kernel_rfl) (by simp) ?_
              refine AllReadyH.cons rfl (fun K hK => ?_) AllReadyH.nil
              go_simp
              have hz := bal (Below.refl _ w2) (.cells #[.int .i64 x] 3)
              have hk3 := hk2.later hz
              have Kf3 := Kf2.trans (Keep.of hz (fun b hb => Nat.lt_of_lt_of_le (hF b hb) Kf2.size))
              have p14 : (w2.alloc (.cells #[.int .i64 x] 3)).cell? ⟨w2.heap.size, 0, none⟩ = some (.int .i64 x) := by simp [go_sem]
              generalize hw : w2.alloc (.cells #[.int .i64 x] 3) = w3 at *
              clear hw hz
              refine hK.out _ _ ?_ (fun _ => ?_)
              · exact True.intro
              clear hK K
              refine wpAnyH_ready (rs := [15]) (by kernel_rfl) (by simp) ?_
              refine AllReadyH.cons rfl (fun K hK => ?_) AllReadyH.nil
              refine step_append_at _ _ (some 47) 27 rfl rfl (by rfl) base 3 i3 (.int .i64 0) 1 8 Tryz.underlying27 hi3 hz30 hz31 hz32 rfl (by decide) (.slice ka ns.length ck) _ _ rfl (ok_at HLK.out hk3.ok) ⟨w2.heap.size, 0, none⟩ 1 1 [.int .i64 x] rfl rfl (one_cell0 p14) (fun u hu => by simp at hu; subst hu; rfl) (by unfold maxLen; omega) (by omega) (Nat.le_trans hbw Kf3.size) ?_
              intro v15 w4 ho15 hg15 hl15
              have hk4 := hk3.grow15 HLK.out ho15 hg15
              have Kf4 := Kf3.trans (Keep.grown hg15 (fun b hb => Nat.lt_of_lt_of_le (hF b hb) Kf3.size) (fun b e hb => hb.2.2.2 e))
              have hv15 : ∀ b, v15.ownBlock = some b → (Value.slice ka ns.length ck).ownBlock = some b ∨ w.heap.size ≤ b := fun b e => by
                rcases hl15 with h1 | h1
                · exact Or.inl (h1 ▸ e)
                · rw [h1] at e; injection e with e; exact Or.inr (by have := Kf3.size; omega)
              obtain ⟨ao15, cap15, rfl⟩ := own_shape ho15
              clear ho15 hg15 hl15 p14
              refine hK.out _ _ ?_ (fun _ => ?_)
              · exact True.intro
              clear hK K
              refine take_at 16 (some 48) (.pointer (some ⟨kb, 0, none⟩)) rfl rfl (by kernel_rfl) (by kernel_rfl) (by kernel_rfl) (fun _ _ _ h => h) (by rfl) (fun W hSw => by go_simp) True.intro ?_
              simp only [Act.put, List.setIfInBounds_toArray, List.set_cons_zero, List.set_cons_succ]
              refine take_at 17 (some 49) (.pointer (some ⟨kb, 0, none⟩)) rfl rfl (by kernel_rfl) (by kernel_rfl) (by kernel_rfl) (fun _ _ _ h => h) (by rfl) (fun W hSw => by go_simp) True.intro ?_
              simp only [Act.put, List.setIfInBounds_toArray, List.set_cons_zero, List.set_cons_succ]
              refine wpAnyH_ready (rs := [18]) (by kernel_rfl) (by simp) ?_
              refine AllReadyH.cons rfl (fun K hK => ?_) AllReadyH.nil
              have cc := hk4.c0
              have ff := hk4.f0
              go_simp
              clear cc ff
              have hkA := hk4.set0 (.slice ao8 (ns.length + 1) cap8)
              have KfA := Kf4.trans (Keep.grown (grown_set w4 kb 0 (.slice ao8 (ns.length + 1) cap8)) (fun b hb => Nat.lt_of_lt_of_le (hF b hb) Kf4.size) (fun b e hb => hb.2.1 (by injection e with e; exact e.symm)))
              generalize hw : w4.setCell ⟨kb, 0, none⟩ (.slice ao8 (ns.length + 1) cap8) = wA at *
              clear hw
              refine hK.out _ _ ?_ (fun _ => ?_)
              · exact True.intro
              clear hK K
              refine take_at 19 (some 50) (.pointer (some ⟨kb, 0, none⟩)) rfl rfl (by kernel_rfl) (by kernel_rfl) (by kernel_rfl) (fun _ _ _ h => h) (by rfl) (fun W hSw => by go_simp) True.intro ?_
              simp only [Act.put, List.setIfInBounds_toArray, List.set_cons_zero, List.set_cons_succ]
              refine take_at 20 (some 51) (.pointer (some ⟨kb, 1, none⟩)) rfl rfl (by kernel_rfl) (by kernel_rfl) (by kernel_rfl) (fun _ _ _ h => h) (by rfl) (fun W hSw => by go_simp) True.intro ?_
              simp only [Act.put, List.setIfInBounds_toArray, List.set_cons_zero, List.set_cons_succ]
              refine wpAnyH_ready (rs := [21]) (by kernel_rfl) (by simp) ?_
              refine AllReadyH.cons rfl (fun K hK => ?_) AllReadyH.nil
              have cc := hkA.c1
              have ff := hkA.f1
              go_simp
              clear cc ff
              have hkB := hkA.set1 (.slice ao15 (ns.length + 1) cap15)
              have KfB := KfA.trans (Keep.grown (grown_set wA kb 1 (.slice ao15 (ns.length + 1) cap15)) (fun b hb => Nat.lt_of_lt_of_le (hF b hb) KfA.size) (fun b e hb => hb.2.1 (by injection e with e; exact e.symm)))
              generalize hw : wA.setCell ⟨kb, 1, none⟩ (.slice ao15 (ns.length + 1) cap15) = wB at *
              clear hw
              refine hK.out _ _ ?_ (fun _ => ?_)
              · exact True.intro
              clear hK K
              refine wpAnyH_done (by kernel_rfl) ?_ _
              refine NoPanic.normal ?_
              go_wp2
              first | go_end0 | (refine bodyPost_ret (results_none rfl _ _ _) rfl ?_)
              exact ⟨rfl, _, _, by rw [HN'.out, HK'.out]; exact hkB, KfB, hv8, hv15⟩
            · go_simp
              have hz := bal (Below.refl _ w1) (.cells #[.int .i64 x] 3)
              have hk2 := hk1.later hz
              have Kf2 := Kf1.trans (Keep.of hz (fun b hb => Nat.lt_of_lt_of_le (hF b hb) Kf1.size))
              have p14 : (w1.alloc (.cells #[.int .i64 x] 3)).cell? ⟨w1.heap.size, 0, none⟩ = some (.int .i64 x) := by simp [go_sem]
              replace p7 := cell_later' p7 hz
              generalize hw : w1.alloc (.cells #[.int .i64 x] 3) = w2 at *
              clear hw hz
              refine hK.out _ _ ?_ (fun _ => ?_)
              · exact True.intro
              clear hK K
              refine wpAnyH_ready (rs := [8]) (by kernel_rfl) (by simp) ?_
              refine AllReadyH.cons rfl (fun K hK => ?_) AllReadyH.nil
              refine step_append_at _ _ (some 40) 48 rfl rfl (by rfl) base 9 i9 (tx []) 1 16 Tryz.underlying48 hi9 hz90 hz91 hz92 rfl (by decide) (.slice na ns.length cn) _ _ rfl hk2.on ⟨w0.heap.size, 0, none⟩ 1 1 [tx s] rfl rfl (one_cell0 p7) (fun u hu => by simp at hu; subst hu; rfl) (by unfold maxLen; omega) (by omega) (Nat.le_trans hbw Kf2.size) ?_
              intro v8 w3 ho8 hg8 hl8
              have hk3 := hk2.grow8 ho8 hg8
              have Kf3 := Kf2.trans (Keep.grown hg8 (fun b hb => Nat.lt_of_lt_of_le (hF b hb) Kf2.size) (fun b e hb => hb.2.2.1 e))
              have hv8 : ∀ b, v8.ownBlock = some b → (Value.slice na ns.length cn).ownBlock = some b ∨ w.heap.size ≤ b := fun b e => by
                rcases hl8 with h1 | h1
                · exact Or.inl (h1 ▸ e)
                · rw [h1] at e; injection e with e; exact Or.inr (by have := Kf2.size; omega)
              replace p14 := grown_cell hg8 p14 (fun e => by have := hnl _ e.symm; have := Kf1.size; omega)
              obtain ⟨ao8, cap8, rfl⟩ := own_shape ho8
              clear ho8 hg8 hl8 p7
              refine hK.out _ _ ?_ (fun _ => ?_)
              · exact True.intro
              clear hK K
              refine wpAnyH_ready (rs := [15]) (by kernel_rfl) (by simp) ?_
              refine AllReadyH.cons rfl (fun K hK => ?_) AllReadyH.nil
              refine step_append_at _ _ (some 47) 27 rfl rfl (by rfl) base 3 i3 (.int .i64 0) 1 8 Tryz.underlying27 hi3 hz30 hz31 hz32 rfl (by decide) (.slice ka ns.length ck) _ _ rfl (ok_at HLK.out hk3.ok) ⟨w1.heap.size, 0, none⟩ 1 1 [.int .i64 x] rfl rfl (one_cell0 p14) (fun u hu => by simp at hu; subst hu; rfl) (by unfold maxLen; omega) (by omega) (Nat.le_trans hbw Kf3.size) ?_
              intro v15 w4 ho15 hg15 hl15
              have hk4 := hk3.grow15 HLK.out ho15 hg15
              have Kf4 := Kf3.trans (Keep.grown hg15 (fun b hb => Nat.lt_of_lt_of_le (hF b hb) Kf3.size) (fun b e hb => hb.2.2.2 e))
              have hv15 : ∀ b, v15.ownBlock = some b → (Value.slice ka ns.length ck).ownBlock = some b ∨ w.heap.size ≤ b := fun b e => by
                rcases hl15 with h1 | h1
                · exact Or.inl (h1 ▸ e)
                · rw [h1] at e; injection e with e; exact Or.inr (by have := Kf3.size; omega)
              obtain ⟨ao15, cap15, rfl⟩ := own_shape ho15
              clear ho15 hg15 hl15 p14
              refine hK.out _ _ ?_ (fun _ => ?_)
              · exact True.intro
              clear hK K
              refine take_at 16 (some 48) (.pointer (some ⟨kb, 0, none⟩)) rfl rfl (by kernel_rfl) (by kernel_rfl) (by kernel_rfl) (fun _ _ _ h => h) (by rfl) (fun W hSw => by go_simp) True.intro ?_
              simp only [Act.put, List.setIfInBounds_toArray, List.set_cons_zero, List.set_cons_succ]
              refine take_at 17 (some 49) (.pointer (some ⟨kb, 0, none⟩)) rfl rfl (by kernel_rfl) (by kernel_rfl) (by kernel_rfl) (fun _ _ _ h => h) (by rfl) (fun W hSw => by go_simp) True.intro ?_
              simp only [Act.put, List.setIfInBounds_toArray, List.set_cons_zero, List.set_cons_succ]
              refine wpAnyH_ready (rs := [18]) (by kernel_rfl) (by simp) ?_
              refine AllReadyH.cons rfl (fun K hK => ?_) AllReadyH.nil
              have cc := hk4.c0
              have ff := hk4.f0
              go_simp
              clear cc ff
              have hkA := hk4.set0 (.slice ao8 (ns.length + 1) cap8)
              have KfA := Kf4.trans (Keep.grown (grown_set w4 kb 0 (.slice ao8 (ns.length + 1) cap8)) (fun b hb => Nat.lt_of_lt_of_le (hF b hb) Kf4.size) (fun b e hb => hb.2.1 (by injection e with e; exact e.symm)))
              generalize hw : w4.setCell ⟨kb, 0, none⟩ (.slice ao8 (ns.length + 1) cap8) = wA at *
              clear hw
              refine hK.out _ _ ?_ (fun _ => ?_)
              · exact True.intro
              clear hK K
              refine take_at 19 (some 50) (.pointer (some ⟨kb, 0, none⟩)) rfl rfl (by kernel_rfl) (by kernel_rfl) (by kernel_rfl) (fun _ _ _ h => h) (by rfl) (fun W hSw => by go_simp) True.intro ?_
              simp only [Act.put, List.setIfInBounds_toArray, List.set_cons_zero, List.set_cons_succ]
              refine take_at 20 (some 51) (.pointer (some ⟨kb, 1, none⟩)) rfl rfl (by kernel_rfl) (by kernel_rfl) (by kernel_rfl) (fun _ _ _ h => h) (by rfl) (fun W hSw => by go_simp) True.intro ?_
              simp only [Act.put, List.setIfInBounds_toArray, List.set_cons_zero, List.set_cons_succ]
              refine wpAnyH_ready (rs := [21]) (by kernel_rfl) (by simp) ?_
              refine AllReadyH.cons rfl (fun K hK => ?_) AllReadyH.nil
              have cc := hkA.c1
              have ff := hkA.f1
              go_simp
              clear cc ff
              have hkB := hkA.set1 (.slice ao15 (ns.length + 1) cap15)
              have KfB := KfA.trans (Keep.grown (grown_set wA kb 1 (.slice ao15 (ns.length + 1) cap15)) (fun b hb => Nat.lt_of_lt_of_le (hF b hb) KfA.size) (fun b e hb => hb.2.1 (by injection e with e; exact e.symm)))
              generalize hw : wA.setCell ⟨kb, 1, none⟩ (.slice ao15 (ns.length + 1) cap15) = wB at *
              clear hw
              refine hK.out _ _ ?_ (fun _ => ?_)
              · exact True.intro
              clear hK K
              refine wpAnyH_done (by kernel_rfl) ?_ _
              refine NoPanic.normal ?_
              go_wp2
              first | go_end0 | (refine bodyPost_ret (results_none rfl _ _ _) rfl ?_)
              exact ⟨rfl, _, _, by rw [HN'.out, HK'.out]; exact hkB, KfB, hv8, hv15⟩
          · go_simp
            have hz := bal (Below.refl _ w1) (.cells #[.int .i64 x] 3)
            have hk2 := hk1.later hz
            have Kf2 := Kf1.trans (Keep.of hz (fun b hb => Nat.lt_of_lt_of_le (hF b hb) Kf1.size))
            have p14 : (w1.alloc (.cells #[.int .i64 x] 3)).cell? ⟨w1.heap.size, 0, none⟩ = some (.int .i64 x) := by simp [go_sem]
            replace p7 := cell_later' p7 hz
            generalize hw : w1.alloc (.cells #[.int .i64 x] 3) = w2 at *
            clear hw hz
            refine hK.out _ _ ?_ (fun _ => ?_)
            · exact True.intro
            clear hK K
            refine wpAnyH_ready (rs := [5]) (by kernel_rfl) (by simp) ?_
            refine AllReadyH.cons rfl (fun K hK => ?_) AllReadyH.nil
            have cc := hk2.c0
            go_simp
            refine hK.out _ _ ?_ (fun _ => ?_)
            · exact True.intro
            clear hK K
            clear cc
            refine wpAnyH_ready (rs := [8]) (by kernel_rfl) (by simp) ?_
            refine AllReadyH.cons rfl (fun K hK => ?_) AllReadyH.nil
            refine step_append_at _ _ (some 40) 48 rfl rfl (by rfl) base 9 i9 (tx []) 1 16 Tryz.underlying48 hi9 hz90 hz91 hz92 rfl (by decide) (.slice na ns.length cn) _ _ rfl hk2.on ⟨w0.heap.size, 0, none⟩ 1 1 [tx s] rfl rfl (one_cell0 p7) (fun u hu => by simp at hu; subst hu; rfl) (by unfold maxLen; omega) (by omega) (Nat.le_trans hbw Kf2.size) ?_
            intro v8 w3 ho8 hg8 hl8
            have hk3 := hk2.grow8 ho8 hg8
            have Kf3 := Kf2.trans (Keep.grown hg8 (fun b hb => Nat.lt_of_lt_of_le (hF b hb) Kf2.size) (fun b e hb => hb.2.2.1 e))
            have hv8 : ∀ b, v8.ownBlock = some b → (Value.slice na ns.length cn).ownBlock = some b ∨ w.heap.size ≤ b := fun b e => by
              rcases hl8 with h1 | h1
              · exact Or.inl (h1 ▸ e)
              · rw [h1] at e; injection e with e; exact Or.inr (by have := Kf2.size; omega)
            replace p14 := grown_cell hg8 p14 (fun e => by have := hnl _ e.symm; have := Kf1.size; omega)
            obtain ⟨ao8, cap8, rfl⟩ := own_shape ho8
            clear ho8 hg8 hl8 p7
            refine hK.out _ _ ?_ (fun _ => ?_)
            · exact True.intro
            clear hK K
            refine wpAnyH_ready (rs := [15]) (by kernel_rfl) (by simp) ?_
            refine AllReadyH.cons rfl (fun K hK => ?_) AllReadyH.nil
            refine step_append_at _ _ (some 47) 27 rfl rfl (by rfl) base 3 i3 (.int .i64 0) 1 8 Tryz.underlying27 hi3 hz30 hz31 hz32 rfl (by decide) (.slice ka ns.length ck) _ _ rfl (ok_at HLK.out hk3.ok) ⟨w1.heap.size, 0, none⟩ 1 1 [.int .i64 x] rfl rfl (one_cell0 p14) (fun u hu => by simp at hu; subst hu; rfl) (by unfold maxLen; omega) (by omega) (Nat.le_trans hbw Kf3.size) ?_
            intro v15 w4 ho15 hg15 hl15
            have hk4 := hk3.grow15 HLK.out ho15 hg15
            have Kf4 := Kf3.trans (Keep.grown hg15 (fun b hb => Nat.lt_of_lt_of_le (hF b hb) Kf3.size) (fun b e hb => hb.2.2.2 e))
            have hv15 : ∀ b, v15.ownBlock = some b → (Value.slice ka ns.length ck).ownBlock = some b ∨ w.heap.size ≤ b := fun b e => by
              rcases hl15 with h1 | h1
              · exact Or.inl (h1 ▸ e)
              · rw [h1] at e; injection e with e; exact Or.inr (by have := Kf3.size; omega)
            obtain ⟨ao15, cap15, rfl⟩ := own_shape ho15
            clear ho15 hg15 hl15 p14
            refine hK.out _ _ ?_ (fun _ => ?_)
            · exact True.intro
            clear hK K
            refine take_at 16 (some 48) (.pointer (some ⟨kb, 0, none⟩)) rfl rfl (by kernel_rfl) (by kernel_rfl) (by kernel_rfl) (fun _ _ _ h => h) (by rfl) (fun W hSw => by go_simp) True.intro ?_
            simp only [Act.put, List.setIfInBounds_toArray, List.set_cons_zero, List.set_cons_succ]
            refine take_at 17 (some 49) (.pointer (some ⟨kb, 0, none⟩)) rfl rfl (by kernel_rfl) (by kernel_rfl) (by kernel_rfl) (fun _ _ _ h => h) (by rfl) (fun W hSw => by go_simp) True.intro ?_
            simp only [Act.put, List.setIfInBounds_toArray, List.set_cons_zero, List.set_cons_succ]
            refine wpAnyH_ready (rs := [18]) (by kernel_rfl) (by simp) ?_
            refine AllReadyH.cons rfl (fun K hK => ?_) AllReadyH.nil
            have cc := hk4.c0
            have ff := hk4.f0
            go_simp
            clear cc ff
            have hkA := hk4.set0 (.slice ao8 (ns.length + 1) cap8)
            have KfA := Kf4.trans (Keep.grown (grown_set w4 kb 0 (.slice ao8 (ns.length + 1) cap8)) (fun b hb => Nat.lt_of_lt_of_le (hF b hb) Kf4.size) (fun b e hb => hb.2.1 (by injection e with e; exact e.symm)))
            generalize hw : w4.setCell ⟨kb, 0, none⟩ (.slice ao8 (ns.length + 1) cap8) = wA at *
            clear hw
            refine hK.out _ _ ?_ (fun _ => ?_)
            · exact True.intro
            clear hK K
            refine take_at 19 (some 50) (.pointer (some ⟨kb, 0, none⟩)) rfl rfl (by kernel_rfl) (by kernel_rfl) (by kernel_rfl) (fun _ _ _ h => h) (by rfl) (fun W hSw => by go_simp) True.intro ?_
            simp only [Act.put, List.setIfInBounds_toArray, List.set_cons_zero, List.set_cons_succ]
            refine take_at 20 (some 51) (.pointer (some ⟨kb, 1, none⟩)) rfl rfl (by kernel_rfl) (by kernel_rfl) (by kernel_rfl) (fun _ _ _ h => h) (by rfl) (fun W hSw => by go_simp) True.intro ?_
            simp only [Act.put, List.setIfInBounds_toArray, List.set_cons_zero, List.set_cons_succ]
            refine wpAnyH_ready (rs := [21]) (by kernel_rfl) (by simp) ?_
            refine AllReadyH.cons rfl (fun K hK => ?_) AllReadyH.nil
            have cc := hkA.c1
            have ff := hkA.f1
            go_simp
            clear cc ff
            have hkB := hkA.set1 (.slice ao15 (ns.length + 1) cap15)
            have KfB := KfA.trans (Keep.grown (grown_set wA kb 1 (.slice ao15 (ns.length + 1) cap15)) (fun b hb => Nat.lt_of_lt_of_le (hF b hb) KfA.size) (fun b e hb => hb.2.1 (by injection e with e; exact e.symm)))
            generalize hw : wA.setCell ⟨kb, 1, none⟩ (.slice ao15 (ns.length + 1) cap15) = wB at *
            clear hw
            refine hK.out _ _ ?_ (fun _ => ?_)
            · exact True.intro
            clear hK K
            refine wpAnyH_done (by kernel_rfl) ?_ _
            refine NoPanic.normal ?_
            go_wp2
            first | go_end0 | (refine bodyPost_ret (results_none rfl _ _ _) rfl ?_)
            exact ⟨rfl, _, _, by rw [HN'.out, HK'.out]; exact hkB, KfB, hv8, hv15⟩
        · go_simp
          have hz := bal (Below.refl _ w0) (.cells #[.int .i64 x] 3)
          have hk1 := hk0.later hz
          have Kf1 := Kf0.trans (Keep.of hz (fun b hb => Nat.lt_of_lt_of_le (hF b hb) Kf0.size))
          have p14 : (w0.alloc (.cells #[.int .i64 x] 3)).cell? ⟨w0.heap.size, 0, none⟩ = some (.int .i64 x) := by simp [go_sem]
          generalize hw : w0.alloc (.cells #[.int .i64 x] 3) = w1 at *
          clear hw hz
          refine hK.out _ _ ?_ (fun _ => ?_)
          · exact True.intro
          clear hK K
          refine wpAnyH_ready (rs := [5, 7]) (by kernel_rfl) (by simp) ?_
          refine AllReadyH.cons rfl (fun K hK => ?_) (AllReadyH.cons rfl (fun K hK => ?_) AllReadyH.nil)
          · have cc := hk1.c0
            go_simp
            refine hK.out _ _ ?_ (fun _ => ?_)
            · exact True.intro
            clear hK K
            clear cc
            refine wpAnyH_ready (rs := [7]) (by kernel_rfl) (by simp) ?_
            refine AllReadyH.cons rfl (fun K hK => ?_) AllReadyH.nil
            go_simp
            have hz := bal (Below.refl _ w1) (.cells #[tx s] 9)
            have hk2 := hk1.later hz
            have Kf2 := Kf1.trans (Keep.of hz (fun b hb => Nat.lt_of_lt_of_le (hF b hb) Kf1.size))
            have p7 : (w1.alloc (.cells #[tx s] 9)).cell? ⟨w1.heap.size, 0, none⟩ = some (tx s) := by simp [go_sem]
            replace p14 := cell_later' p14 hz
            generalize hw : w1.alloc (.cells #[tx s] 9) = w2 at *
            clear hw hz
            refine hK.out _ _ ?_ (fun _ => ?_)
            · exact True.intro
            clear hK K
            refine wpAnyH_ready (rs := [8]) (by kernel_rfl) (by simp) ?_
            refine AllReadyH.cons rfl (fun K hK => ?_) AllReadyH.nil
            refine step_append_at _ _ (some 40) 48 rfl rfl (by rfl) base 9 i9 (tx []) 1 16 Tryz.underlying48 hi9 hz90 hz91 hz92 rfl (by decide) (.slice na ns.length cn) _ _ rfl hk2.on ⟨w1.heap.size, 0, none⟩ 1 1 [tx s] rfl rfl (one_cell0 p7) (fun u hu => by simp at hu; subst hu; rfl) (by unfold maxLen; omega) (by omega) (Nat.le_trans hbw Kf2.size) ?_
            intro v8 w3 ho8 hg8 hl8
            have hk3 := hk2.grow8 ho8 hg8
            have Kf3 := Kf2.trans (Keep.grown hg8 (fun b hb => Nat.lt_of_lt_of_le (hF b hb) Kf2.size) (fun b e hb => hb.2.2.1 e))
            have hv8 : ∀ b, v8.ownBlock = some b → (Value.slice na ns.length cn).ownBlock = some b ∨ w.heap.size ≤ b := fun b e => by
              rcases hl8 with h1 | h1
              · exact Or.inl (h1 ▸ e)
              · rw [h1] at e; injection e with e; exact Or.inr (by have := Kf2.size; omega)
            replace p14 := grown_cell hg8 p14 (fun e => by have := hnl _ e.symm; have := Kf0.size; omega)
            obtain ⟨ao8, cap8, rfl⟩ := own_shape ho8
            clear ho8 hg8 hl8 p7
            refine hK.out _ _ ?_ (fun _ => ?_)
            · exact True.intro
            clear hK K
            refine wpAnyH_ready (rs := [15]) (by kernel_rfl) (by simp) ?_
            refine AllReadyH.cons rfl (fun K hK => ?_) AllReadyH.nil
            refine step_append_at _ _ (some 47) 27 rfl rfl (by rfl) base 3 i3 (.int .i64 0) 1 8 Tryz.underlying27 hi3 hz30 hz31 hz32 rfl (by decide) (.slice ka ns.length ck) _ _ rfl (ok_at HLK.out hk3.ok) ⟨w0.heap.size, 0, none⟩ 1 1 [.int .i64 x] rfl rfl (one_cell0 p14) (fun u hu => by simp at hu; subst hu; rfl) (by unfold maxLen; omega) (by omega) (Nat.le_trans hbw Kf3.size) ?_
            intro v15 w4 ho15 hg15 hl15
            have hk4 := hk3.grow15 HLK.out ho15 hg15
            have Kf4 := Kf3.trans (Keep.grown hg15 (fun b hb => Nat.lt_of_lt_of_le (hF b hb) Kf3.size) (fun b e hb => hb.2.2.2 e))
            have hv15 : ∀ b, v15.ownBlock = some b → (Value.slice ka ns.length ck).ownBlock = some b ∨ w.heap.size ≤ b := fun b e => by
              rcases hl15 with h1 | h1
              · exact Or.inl (h1 ▸ e)
              · rw [h1] at e; injection e with e; exact Or.inr (by have := Kf3.size; omega)
            obtain ⟨ao15, cap15, rfl⟩ := own_shape ho15
            clear ho15 hg15 hl15 p14
            refine hK.out _ _ ?_ (fun _ => ?_)
            · exact True.intro
            clear hK K
            refine take_at 16 (some 48) (.pointer (some ⟨kb, 0, none⟩)) rfl rfl (by kernel_rfl) (by kernel_rfl) (by kernel_rfl) (fun _ _ _ h => h) (by rfl) (fun W hSw => by go_simp) True.intro ?_
            simp only [Act.put, List.setIfInBounds_toArray, List.set_cons_zero, List.set_cons_succ]
            refine take_at 17 (some 49) (.pointer (some ⟨kb, 0, none⟩)) rfl rfl (by kernel_rfl) (by kernel_rfl) (by kernel_rfl) (fun _ _ _ h => h) (by rfl) (fun W hSw => by go_simp) True.intro ?_
            simp only [Act.put, List.setIfInBounds_toArray, List.set_cons_zero, List.set_cons_succ]
            refine wpAnyH_ready (rs := [18]) (by kernel_rfl) (by simp) ?_
            refine AllReadyH.cons rfl (fun K hK => ?_) AllReadyH.nil
            have cc := hk4.c0
            have ff := hk4.f0
            go_simp
            clear cc ff
            have hkA := hk4.set0 (.slice ao8 (ns.length + 1) cap8)
            have KfA := Kf4.trans (Keep.grown (grown_set w4 kb 0 (.slice ao8 (ns.length + 1) cap8)) (fun b hb => Nat.lt_of_lt_of_le (hF b hb) Kf4.size) (fun b e hb => hb.2.1 (by injection e with e; exact e.symm)))
            generalize hw : w4.setCell ⟨kb, 0, none⟩ (.slice ao8 (ns.length + 1) cap8) = wA at *
            clear hw
            refine hK.out _ _ ?_ (fun _ => ?_)
            · exact True.intro
            clear hK K
            refine take_at 19 (some 50) (.pointer (some ⟨kb, 0, none⟩)) rfl rfl (by kernel_rfl) (by kernel_rfl) (by kernel_rfl) (fun _ _ _ h => h) (by rfl) (fun W hSw => by go_simp) True.intro ?_
            simp only [Act.put, List.setIfInBounds_toArray, List.set_cons_zero, List.set_cons_succ]
            refine take_at 20 (some 51) (.pointer (some ⟨kb, 1, none⟩)) rfl rfl (by kernel_rfl) (by kernel_rfl) (by kernel_rfl) (fun _ _ _ h => h) (by rfl) (fun W hSw => by go_simp) True.intro ?_
            simp only [Act.put, List.setIfInBounds_toArray, List.set_cons_zero, List.set_cons_succ]
            refine wpAnyH_ready (rs := [21]) (by kernel_rfl) (by simp) ?_
            refine AllReadyH.cons rfl (fun K hK => ?_) AllReadyH.nil
            have cc := hkA.c1
            have ff := hkA.f1
            go_simp
            clear cc ff
            have hkB := hkA.set1 (.slice ao15 (ns.length + 1) cap15)
            have KfB := KfA.trans (Keep.grown (grown_set wA kb 1 (.slice ao15 (ns.length + 1) cap15)) (fun b hb => Nat.lt_of_lt_of_le (hF b hb) KfA.size) (fun b e hb => hb.2.1 (by injection e with e; exact e.symm)))
            generalize hw : wA.setCell ⟨kb, 1, none⟩ (.slice ao15 (ns.length + 1) cap15) = wB at *
            clear hw
            refine hK.out _ _ ?_ (fun _ => ?_)
            · exact True.intro
            clear hK K
            refine wpAnyH_done (by kernel_rfl) ?_ _
            refine NoPanic.normal ?_
            go_wp2
            first | go_end0 | (refine bodyPost_ret (results_none rfl _ _ _) rfl ?_)
            exact ⟨rfl, _, _, by rw [HN'.out, HK'.out]; exact hkB, KfB, hv8, hv15⟩
          · go_simp
            have hz := bal (Below.refl _ w1) (.cells #[tx s] 9)
            have hk2 := hk1.later hz
            have Kf2 := Kf1.trans (Keep.of hz (fun b hb => Nat.lt_of_lt_of_le (hF b hb) Kf1.size))
            have p7 : (w1.alloc (.cells #[tx s] 9)).cell? ⟨w1.heap.size, 0, none⟩ = some (tx s) := by simp [go_sem]
            replace p14 := cell_later' p14 hz
            generalize hw : w1.alloc (.cells #[tx s] 9) = w2 at *
            clear hw hz
            refine hK.out _ _ ?_ (fun _ => ?_)
            · exact True.intro
            clear hK K
            refine wpAnyH_ready (rs := [5]) (by kernel_rfl) (by simp) ?_
            refine AllReadyH.cons rfl (fun K hK => ?_) AllReadyH.nil
            have cc := hk2.c0
            go_simp
            refine hK.out _ _ ?_ (fun _ => ?_)
            · exact True.intro
            clear hK K
            clear cc
            refine wpAnyH_ready (rs := [8]) (by kernel_rfl) (by simp) ?_
            refine AllReadyH.cons rfl (fun K hK => ?_) AllReadyH.nil
            refine step_append_at _ _ (some 40) 48 rfl rfl (by rfl) base 9 i9 (tx []) 1 16 Tryz.underlying48 hi9 hz90 hz91 hz92 rfl (by decide) (.slice na ns.length cn) _ _ rfl hk2.on ⟨w1.heap.size, 0, none⟩ 1 1 [tx s] rfl rfl (one_cell0 p7) (fun u hu => by simp at hu; subst hu; rfl) (by unfold maxLen; omega) (by omega) (Nat.le_trans hbw Kf2.size) ?_
            intro v8 w3 ho8 hg8 hl8
            have hk3 := hk2.grow8 ho8 hg8
            have Kf3 := Kf2.trans (Keep.grown hg8 (fun b hb => Nat.lt_of_lt_of_le (hF b hb) Kf2.size) (fun b e hb => hb.2.2.1 e))
            have hv8 : ∀ b, v8.ownBlock = some b → (Value.slice na ns.length cn).ownBlock = some b ∨ w.heap.size ≤ b := fun b e => by
              rcases hl8 with h1 | h1
              · exact Or.inl (h1 ▸ e)
              · rw [h1] at e; injection e with e; exact Or.inr (by have := Kf2.size; omega)
            replace p14 := grown_cell hg8 p14 (fun e => by have := hnl _ e.symm; have := Kf0.size; omega)
            obtain ⟨ao8, cap8, rfl⟩ := own_shape ho8
            clear ho8 hg8 hl8 p7
            refine hK.out _ _ ?_ (fun _ => ?_)
            · exact True.intro
            clear hK K
            refine wpAnyH_ready (rs := [15]) (by kernel_rfl) (by simp) ?_
            refine AllReadyH.cons rfl (fun K hK => ?_) AllReadyH.nil
            refine step_append_at _ _ (some 47) 27 rfl rfl (by rfl) base 3 i3 (.int .i64 0) 1 8 Tryz.underlying27 hi3 hz30 hz31 hz32 rfl (by decide) (.slice ka ns.length ck) _ _ rfl (ok_at HLK.out hk3.ok) ⟨w0.heap.size, 0, none⟩ 1 1 [.int .i64 x] rfl rfl (one_cell0 p14) (fun u hu => by simp at hu; subst hu; rfl) (by unfold maxLen; omega) (by omega) (Nat.le_trans hbw Kf3.size) ?_
            intro v15 w4 ho15 hg15 hl15
            have hk4 := hk3.grow15 HLK.out ho15 hg15
            have Kf4 := Kf3.trans (Keep.grown hg15 (fun b hb => Nat.lt_of_lt_of_le (hF b hb) Kf3.size) (fun b e hb => hb.2.2.2 e))
            have hv15 : ∀ b, v15.ownBlock = some b → (Value.slice ka ns.length ck).ownBlock = some b ∨ w.heap.size ≤ b := fun b e => by
              rcases hl15 with h1 | h1
              · exact Or.inl (h1 ▸ e)
              · rw [h1] at e; injection e with e; exact Or.inr (by have := Kf3.size; omega)
            obtain ⟨ao15, cap15, rfl⟩ := own_shape ho15
            clear ho15 hg15 hl15 p14
            refine hK.out _ _ ?_ (fun _ => ?_)
            · exact True.intro
            clear hK K
            refine take_at 16 (some 48) (.pointer (some ⟨kb, 0, none⟩)) rfl rfl (by kernel_rfl) (by kernel_rfl) (by kernel_rfl) (fun _ _ _ h => h) (by rfl) (fun W hSw => by go_simp) True.intro ?_
            simp only [Act.put, List.setIfInBounds_toArray, List.set_cons_zero, List.set_cons_succ]
            refine take_at 17 (some 49) (.pointer (some ⟨kb, 0, none⟩)) rfl rfl (by kernel_rfl) (by kernel_rfl) (by kernel_rfl) (fun _ _ _ h => h) (by rfl) (fun W hSw => by go_simp) True.intro ?_
            simp only [Act.put, List.setIfInBounds_toArray, List.set_cons_zero, List.set_cons_succ]
            refine wpAnyH_ready (rs := [18]) (by kernel_rfl) (by simp) ?_
            refine AllReadyH.cons rfl (fun K hK => ?_) AllReadyH.nil
            have cc := hk4.c0
            have ff := hk4.f0
            go_simp
            clear cc ff
            have hkA := hk4.set0 (.slice ao8 (ns.length + 1) cap8)
            have KfA := Kf4.trans (Keep.grown (grown_set w4 kb 0 (.slice ao8 (ns.length + 1) cap8)) (fun b hb => Nat.lt_of_lt_of_le (hF b hb) Kf4.size) (fun b e hb => hb.2.1 (by injection e with e; exact e.symm)))
            generalize hw : w4.setCell ⟨kb, 0, none⟩ (.slice ao8 (ns.length + 1) cap8) = wA at *
            clear hw
            refine hK.out _ _ ?_ (fun _ => ?_)
            · exact True.intro
            clear hK K
            refine take_at 19 (some 50) (.pointer (some ⟨kb, 0, none⟩)) rfl rfl (by kernel_rfl) (by kernel_rfl) (by kernel_rfl) (fun _ _ _ h => h) (by rfl) (fun W hSw => by go_simp) True.intro ?_
            simp only [Act.put, List.setIfInBounds_toArray, List.set_cons_zero, List.set_cons_succ]
            refine take_at 20 (some 51) (.pointer (some ⟨kb, 1, none⟩)) rfl rfl (by kernel_rfl) (by kernel_rfl) (by kernel_rfl) (fun _ _ _ h => h) (by rfl) (fun W hSw => by go_simp) True.intro ?_
            simp only [Act.put, List.setIfInBounds_toArray, List.set_cons_zero, List.set_cons_succ]
            refine wpAnyH_ready (rs := [21]) (by kernel_rfl) (by simp) ?_
            refine AllReadyH.cons rfl (fun K hK => ?_) AllReadyH.nil
            have cc := hkA.c1
            have ff := hkA.f1
            go_simp
            clear cc ff
            have hkB := hkA.set1 (.slice ao15 (ns.length + 1) cap15)
            have KfB := KfA.trans (Keep.grown (grown_set wA kb 1 (.slice ao15 (ns.length + 1) cap15)) (fun b hb => Nat.lt_of_lt_of_le (hF b hb) KfA.size) (fun b e hb => hb.2.1 (by injection e with e; exact e.symm)))
            generalize hw : wA.setCell ⟨kb, 1, none⟩ (.slice ao15 (ns.length + 1) cap15) = wB at *
            clear hw
            refine hK.out _ _ ?_ (fun _ => ?_)
            · exact True.intro
            clear hK K
            refine wpAnyH_done (by kernel_rfl) ?_ _
            refine NoPanic.normal ?_
            go_wp2
            first | go_end0 | (refine bodyPost_ret (results_none rfl _ _ _) rfl ?_)
            exact ⟨rfl, _, _, by rw [HN'.out, HK'.out]; exact hkB, KfB, hv8, hv15⟩
      · go_simp
        have hz := bal (Below.refl _ w0) (.cells #[.int .i64 x] 3)
        have hk1 := hk0.later hz
        have Kf1 := Kf0.trans (Keep.of hz (fun b hb => Nat.lt_of_lt_of_le (hF b hb) Kf0.size))
        have p14 : (w0.alloc (.cells #[.int .i64 x] 3)).cell? ⟨w0.heap.size, 0, none⟩ = some (.int .i64 x) := by simp [go_sem]
        generalize hw : w0.alloc (.cells #[.int .i64 x] 3) = w1 at *
        clear hw hz
        refine hK.out _ _ ?_ (fun _ => ?_)
        · exact True.intro
        clear hK K
        refine wpAnyH_ready (rs := [5, 7, 12]) (by kernel_rfl) (by simp) ?_
        refine AllReadyH.cons rfl (fun K hK => ?_) (AllReadyH.cons rfl (fun K hK => ?_) (AllReadyH.cons rfl (fun K hK => ?_) AllReadyH.nil))
        · have cc := hk1.c0
          go_simp
          refine hK.out _ _ ?_ (fun _ => ?_)
          · exact True.intro
          clear hK K
          clear cc
          refine wpAnyH_ready (rs := [7, 12]) (by kernel_rfl) (by simp) ?_
          refine AllReadyH.cons rfl (fun K hK => ?_) (AllReadyH.cons rfl (fun K hK => ?_) AllReadyH.nil)
          · go_simp
            have hz := bal (Below.refl _ w1) (.cells #[tx s] 9)
            have hk2 := hk1.later hz
            have Kf2 := Kf1.trans (Keep.of hz (fun b hb => Nat.lt_of_lt_of_le (hF b hb) Kf1.size))
            have p7 : (w1.alloc (.cells #[tx s] 9)).cell? ⟨w1.heap.size, 0, none⟩ = some (tx s) := by simp [go_sem]
            replace p14 := cell_later' p14 hz
            generalize hw : w1.alloc (.cells #[tx s] 9) = w2 at *
            clear hw hz
            refine hK.out _ _ ?_ (fun _ => ?_)
            · exact True.intro
            clear hK K
            refine wpAnyH_ready (rs := [8, 12]) (by kernel_rfl) (by simp) ?_
            refine AllReadyH.cons rfl (fun K hK => ?_) (AllReadyH.cons rfl (fun K hK => ?_) AllReadyH.nil)
            · refine step_append_at _ _ (some 40) 48 rfl rfl (by rfl) base 9 i9 (tx []) 1 16 Tryz.underlying48 hi9 hz90 hz91 hz92 rfl (by decide) (.slice na ns.length cn) _ _ rfl hk2.on ⟨w1.heap.size, 0, none⟩ 1 1 [tx s] rfl rfl (one_cell0 p7) (fun u hu => by simp at hu; subst hu; rfl) (by unfold maxLen; omega) (by omega) (Nat.le_trans hbw Kf2.size) ?_
              intro v8 w3 ho8 hg8 hl8
              have hk3 := hk2.grow8 ho8 hg8
              have Kf3 := Kf2.trans (Keep.grown hg8 (fun b hb => Nat.lt_of_lt_of_le (hF b hb) Kf2.size) (fun b e hb => hb.2.2.1 e))
              have hv8 : ∀ b, v8.ownBlock = some b → (Value.slice na ns.length cn).ownBlock = some b ∨ w.heap.size ≤ b := fun b e => by
                rcases hl8 with h1 | h1
                · exact Or.inl (h1 ▸ e)
                · rw [h1] at e; injection e with e; exact Or.inr (by have := Kf2.size; omega)
              replace p14 := grown_cell hg8 p14 (fun e => by have := hnl _ e.symm; have := Kf0.size; omega)
              obtain ⟨ao8, cap8, rfl⟩ := own_shape ho8
              clear ho8 hg8 hl8 p7
              refine hK.out _ _ ?_ (fun _ => ?_)
              · exact True.intro
              clear hK K
              refine wpAnyH_ready (rs := [12]) (by kernel_rfl) (by simp) ?_
              refine AllReadyH.cons rfl (fun K hK => ?_) AllReadyH.nil
              have cc := hk3.c1
              go_simp
              refine hK.out _ _ ?_ (fun _ => ?_)
              · exact True.intro
              clear hK K
              clear cc
              refine wpAnyH_ready (rs := [15]) (by kernel_rfl) (by simp) ?_
              refine AllReadyH.cons rfl (fun K hK => ?_) AllReadyH.nil
              refine step_append_at _ _ (some 47) 27 rfl rfl (by rfl) base 3 i3 (.int .i64 0) 1 8 Tryz.underlying27 hi3 hz30 hz31 hz32 rfl (by decide) (.slice ka ns.length ck) _ _ rfl (ok_at HLK.out hk3.ok) ⟨w0.heap.size, 0, none⟩ 1 1 [.int .i64 x] rfl rfl (one_cell0 p14) (fun u hu => by simp at hu; subst hu; rfl) (by unfold maxLen; omega) (by omega) (Nat.le_trans hbw Kf3.size) ?_
              intro v15 w4 ho15 hg15 hl15
              have hk4 := hk3.grow15 HLK.out ho15 hg15
              have Kf4 := Kf3.trans (Keep.grown hg15 (fun b hb => Nat.lt_of_lt_of_le (hF b hb) Kf3.size) (fun b e hb => hb.2.2.2 e))
              have hv15 : ∀ b, v15.ownBlock = some b → (Value.slice ka ns.length ck).ownBlock = some b ∨ w.heap.size ≤ b := fun b e => by
                rcases hl15 with h1 | h1
                · exact Or.inl (h1 ▸ e)
                · rw [h1] at e; injection e with e; exact Or.inr (by have := Kf3.size; omega)
              obtain ⟨ao15, cap15, rfl⟩ := own_shape ho15
              clear ho15 hg15 hl15 p14
              refine hK.out _ _ ?_ (fun _ => ?_)
              · exact True.intro
              clear hK K
              refine take_at 16 (some 48) (.pointer (some ⟨kb, 0, none⟩)) rfl rfl (by kernel_rfl) (by kernel_rfl) (by kernel_rfl) (fun _ _ _ h => h) (by rfl) (fun W hSw => by go_simp) True.intro ?_
              simp only [Act.put, List.setIfInBounds_toArray, List.set_cons_zero, List.set_cons_succ]
              refine take_at 17 (some 49) (.pointer (some ⟨kb, 0, none⟩)) rfl rfl (by kernel_rfl) (by kernel_rfl) (by kernel_rfl) (fun _ _ _ h => h) (by rfl) (fun W hSw => by go_simp) True.intro ?_
              simp only [Act.put, List.setIfInBounds_toArray, List.set_cons_zero, List.set_cons_succ]
              refine wpAnyH_ready (rs := [18]) (by kernel_rfl) (by simp) ?_
              refine AllReadyH.cons rfl (fun K hK => ?_) AllReadyH.nil
              have cc := hk4.c0
              have ff := hk4.f0
              go_simp
              clear cc ff
              have hkA := hk4.set0 (.slice ao8 (ns.length + 1) cap8)
              have KfA := Kf4.trans (Keep.grown (grown_set w4 kb 0 (.slice ao8 (ns.length + 1) cap8)) (fun b hb => Nat.lt_of_lt_of_le (hF b hb) Kf4.size) (fun b e hb => hb.2.1 (by injection e with e; exact e.symm)))
              generalize hw : w4.setCell ⟨kb, 0, none⟩ (.slice ao8 (ns.length + 1) cap8) = wA at *
              clear hw
              refine hK.out _ _ ?_ (fun _ => ?_)
              · exact True.intro
              clear hK K
              refine take_at 19 (some 50) (.pointer (some ⟨kb, 0, none⟩)) rfl rfl (by kernel_rfl) (by kernel_rfl) (by kernel_rfl) (fun _ _ _ h => h) (by rfl) (fun W hSw => by go_simp) True.intro ?_
              simp only [Act.put, List.setIfInBounds_toArray, List.set_cons_zero, List.set_cons_succ]
              refine take_at 20 (some 51) (.pointer (some ⟨kb, 1, none⟩)) rfl rfl (by kernel_rfl) (by kernel_rfl) (by kernel_rfl) (fun _ _ _ h => h) (by rfl) (fun W hSw => by go_simp) True.intro ?_
              simp only [Act.put, List.setIfInBounds_toArray, List.set_cons_zero, List.set_cons_succ]
              refine wpAnyH_ready (rs := [21]) (by kernel_rfl) (by simp) ?_
              refine AllReadyH.cons rfl (fun K hK => ?_) AllReadyH.nil
              have cc := hkA.c1
              have ff := hkA.f1
              go_simp
              clear cc ff
              have hkB := hkA.set1 (.slice ao15 (ns.length + 1) cap15)
              have KfB := KfA.trans (Keep.grown (grown_set wA kb 1 (.slice ao15 (ns.length + 1) cap15)) (fun b hb => Nat.lt_of_lt_of_le (hF b hb) KfA.size) (fun b e hb => hb.2.1 (by injection e with e; exact e.symm)))
              generalize hw : wA.setCell ⟨kb, 1, none⟩ (.slice ao15 (ns.length + 1) cap15) = wB at *
              clear hw
              refine hK.out _ _ ?_ (fun _ => ?_)
              · exact True.intro
              clear hK K
              refine wpAnyH_done (by kernel_rfl) ?_ _
              refine NoPanic.normal ?_
              go_wp2
              first | go_end0 | (refine bodyPost_ret (results_none rfl _ _ _) rfl ?_)
              exact ⟨rfl, _, _, by rw [HN'.out, HK'.out]; exact hkB, KfB, hv8, hv15⟩
            · have cc := hk2.c1
              go_simp
              refine hK.out _ _ ?_ (fun _ => ?_)
              · exact True.intro
              clear hK K
              clear cc
              refine wpAnyH_ready (rs := [8]) (by kernel_rfl) (by simp) ?_
              refine AllReadyH.cons rfl (fun K hK => ?_) AllReadyH.nil
              refine step_append_at _ _ (some 40) 48 rfl rfl (by rfl) base 9 i9 (tx []) 1 16 Tryz.underlying48 hi9 hz90 hz91 hz92 rfl (by decide) (.slice na ns.length cn) _ _ rfl hk2.on ⟨w1.heap.size, 0, none⟩ 1 1 [tx s] rfl rfl (one_cell0 p7) (fun u hu => by simp at hu; subst hu; rfl) (by unfold maxLen; omega) (by omega) (Nat.le_trans hbw Kf2.size) ?_
              intro v8 w3 ho8 hg8 hl8
              have hk3 := hk2.grow8 ho8 hg8
              have Kf3 := Kf2.trans (Keep.grown hg8 (fun b hb => Nat.lt_of_lt_of_le (hF b hb) Kf2.size) (fun b e hb => hb.2.2.1 e))
              have hv8 : ∀ b, v8.ownBlock = some b → (Value.slice na ns.length cn).ownBlock = some b ∨ w.heap.size ≤ b := fun b e => by
                rcases hl8 with h1 | h1
                · exact Or.inl (h1 ▸ e)
                · rw [h1] at e; injection e with e; exact Or.inr (by have := Kf2.size; omega)
              replace p14 := grown_cell hg8 p14 (fun e => by have := hnl _ e.symm; have := Kf0.size; omega)
              obtain ⟨ao8, cap8, rfl⟩ := own_shape ho8
              clear ho8 hg8 hl8 p7
              refine hK.out _ _ ?_ (fun _ => ?_)
              · exact True.intro
              clear hK K
              refine wpAnyH_ready (rs := [15]) (by kernel_rfl) (by simp) ?_
              refine AllReadyH.cons rfl (fun K hK => ?_) AllReadyH.nil
              refine step_append_at _ _ (some 47) 27 rfl rfl (by rfl) base 3 i3 (.int .i64 0) 1 8 Tryz.underlying27 hi3 hz30 hz31 hz32 rfl (by decide) (.slice ka ns.length ck) _ _ rfl (ok_at HLK.out hk3.ok) ⟨w0.heap.size, 0, none⟩ 1 1 [.int .i64 x] rfl rfl (one_cell0 p14) (fun u hu => by simp at hu; subst hu; rfl) (by unfold maxLen; omega) (by omega) (Nat.le_trans hbw Kf3.size) ?_
              intro v15 w4 ho15 hg15 hl15
              have hk4 := hk3.grow15 HLK.out ho15 hg15
              have Kf4 := Kf3.trans (Keep.grown hg15 (fun b hb => Nat.lt_of_lt_of_le (hF b hb) Kf3.size) (fun b e hb => hb.2.2.2 e))
              have hv15 : ∀ b, v15.ownBlock = some b → (Value.slice ka ns.length ck).ownBlock = some b ∨ w.heap.size ≤ b := fun b e => by
                rcases hl15 with h1 | h1
                · exact Or.inl (h1 ▸ e)
                · rw [h1] at e; injection e with e; exact Or.inr (by have := Kf3.size; omega)
              obtain ⟨ao15, cap15, rfl⟩ := own_shape ho15
              clear ho15 hg15 hl15 p14
              refine hK.out _ _ ?_ (fun _ => ?_)
              · exact True.intro
              clear hK K
              refine take_at 16 (some 48) (.pointer (some ⟨kb, 0, none⟩)) rfl rfl (by kernel_rfl) (by kernel_rfl) (by kernel_rfl) (fun _ _ _ h => h) (by rfl) (fun W hSw => by go_simp) True.intro ?_
              simp only [Act.put, List.setIfInBounds_toArray, List.set_cons_zero, List.set_cons_succ]
              refine take_at 17 (some 49) (.pointer (some ⟨kb, 0, none⟩)) rfl rfl (by kernel_rfl) (by kernel_rfl) (by kernel_rfl) (fun _ _ _ h => h) (by rfl) (fun W hSw => by go_simp) True.intro ?_
              simp only [Act.put, List.setIfInBounds_toArray, List.set_cons_zero, List.set_cons_succ]
              refine wpAnyH_ready (rs := [18]) (by kernel_rfl) (by simp) ?_
              refine AllReadyH.cons rfl (fun K hK => ?_) AllReadyH.nil
              have cc := hk4.c0
              have ff := hk4.f0
              go_simp
              clear cc ff
              have hkA := hk4.set0 (.slice ao8 (ns.length + 1) cap8)
              have KfA := Kf4.trans (Keep.grown (grown_set w4 kb 0 (.slice ao8 (ns.length + 1) cap8)) (fun b hb => Nat.lt_of_lt_of_le (hF b hb) Kf4.size) (fun b e hb => hb.2.1 (by injection e with e; exact e.symm)))
              generalize hw : w4.setCell ⟨kb, 0, none⟩ (.slice ao8 (ns.length + 1) cap8) = wA at *
              clear hw
              refine hK.out _ _ ?_ (fun _ => ?_)
              · exact True.intro
              clear hK K
              refine take_at 19 (some 50) (.pointer (some ⟨kb, 0, none⟩)) rfl rfl (by kernel_rfl) (by kernel_rfl) (by kernel_rfl) (fun _ _ _ h => h) (by rfl) (fun W hSw => by go_simp) True.intro ?_
              simp only [Act.put, List.setIfInBounds_toArray, List.set_cons_zero, List.set_cons_succ]
              refine take_at 20 (some 51) (.pointer (some ⟨kb, 1, none⟩)) rfl rfl (by kernel_rfl) (by kernel_rfl) (by kernel_rfl) (fun _ _ _ h => h) (by rfl) (fun W hSw => by go_simp) True.intro ?_
              simp only [Act.put, List.setIfInBounds_toArray, List.set_cons_zero, List.set_cons_succ]
              refine wpAnyH_ready (rs := [21]) (by kernel_rfl) (by simp) ?_
              refine AllReadyH.cons rfl (fun K hK => ?_) AllReadyH.nil
              have cc := hkA.c1
              have ff := hkA.f1
              go_simp
              clear cc ff
              have hkB := hkA.set1 (.slice ao15 (ns.length + 1) cap15)
              have KfB := KfA.trans (Keep.grown (grown_set wA kb 1 (.slice ao15 (ns.length + 1) cap15)) (fun b hb => Nat.lt_of_lt_of_le (hF b hb) KfA.size) (fun b e hb => hb.2.1 (by injection e with e; exact e.symm)))
              generalize hw : wA.setCell ⟨kb, 1, none⟩ (.slice ao15 (ns.length + 1) cap15) = wB at *
              clear hw
              refine hK.out _ _ ?_ (fun _ => ?_)
              · exact True.intro
              clear hK K
              refine wpAnyH_done (by kernel_rfl) ?_ _
              refine NoPanic.normal ?_
              go_wp2
              first | go_end0 | (refine bodyPost_ret (results_none rfl _ _ _) rfl ?_)
              exact ⟨rfl, _, _, by rw [HN'.out, HK'.out]; exact hkB, KfB, hv8, hv15⟩
          · have cc := hk1.c1
            go_simp
            refine hK.out _ _ ?_ (fun _ => ?_)
            · exact True.intro
            clear hK K
            clear cc
            refine wpAnyH_ready (rs := [7]) (by kernel_rfl) (by simp) ?_
            refine AllReadyH.cons rfl (fun K hK => ?_) AllReadyH.nil
            go_simp
            have hz := bal (Below.refl _ w1) (.cells #[tx s] 9)
            have hk2 := hk1.later hz
            have Kf2 := Kf1.trans (Keep.of hz (fun b hb => Nat.lt_of_lt_of_le (hF b hb) Kf1.size))
            have p7 : (w1.alloc (.cells #[tx s] 9)).cell? ⟨w1.heap.size, 0, none⟩ = some (tx s) := by simp [go_sem]
            replace p14 := cell_later' p14 hz
            generalize hw : w1.alloc (.cells #[tx s] 9) = w2 at *
            clear hw hz
            refine hK.out _ _ ?_ (fun _ => ?_)
            · exact True.intro
            clear hK K
            refine wpAnyH_ready (rs := [8]) (by kernel_rfl) (by simp) ?_
            refine AllReadyH.cons rfl (fun K hK => ?_) AllReadyH.nil
            refine step_append_at _ _ (some 40) 48 rfl rfl (by rfl) base 9 i9 (tx []) 1 16 Tryz.underlying48 hi9 hz90 hz91 hz92 rfl (by decide) (.slice na ns.length cn) _ _ rfl hk2.on ⟨w1.heap.size, 0, none⟩ 1 1 [tx s] rfl rfl (one_cell0 p7) (fun u hu => by simp at hu; subst hu; rfl) (by unfold maxLen; omega) (by omega) (Nat.le_trans hbw Kf2.size) ?_
            intro v8 w3 ho8 hg8 hl8
            have hk3 := hk2.grow8 ho8 hg8
            have Kf3 := Kf2.trans (Keep.grown hg8 (fun b hb => Nat.lt_of_lt_of_le (hF b hb) Kf2.size) (fun b e hb => hb.2.2.1 e))
            have hv8 : ∀ b, v8.ownBlock = some b → (Value.slice na ns.length cn).ownBlock = some b ∨ w.heap.size ≤ b := fun b e => by
              rcases hl8 with h1 | h1
              · exact Or.inl (h1 ▸ e)
              · rw [h1] at e; injection e with e; exact Or.inr (by have := Kf2.size; omega)
            replace p14 := grown_cell hg8 p14 (fun e => by have := hnl _ e.symm; have := Kf0.size; omega)
            obtain ⟨ao8, cap8, rfl⟩ := own_shape ho8
            clear ho8 hg8 hl8 p7
            refine hK.out _ _ ?_ (fun _ => ?_)
            · exact True.intro
            clear hK K
            refine wpAnyH_ready (rs := [15]) (by kernel_rfl) (by simp) ?_
            refine AllReadyH.cons rfl (fun K hK => ?_) AllReadyH.nil
            refine step_append_at _ _ (some 47) 27 rfl rfl (by rfl) base 3 i3 (.int .i64 0) 1 8 Tryz.underlying27 hi3 hz30 hz31 hz32 rfl (by decide) (.slice ka ns.length ck) _ _ rfl (ok_at HLK.out hk3.ok) ⟨w0.heap.size, 0, none⟩ 1 1 [.int .i64 x] rfl rfl (one_cell0 p14) (fun u hu => by simp at hu; subst hu; rfl) (by unfold maxLen; omega) (by omega) (Nat.le_trans hbw Kf3.size) ?_
            intro v15 w4 ho15 hg15 hl15
            have hk4 := hk3.grow15 HLK.out ho15 hg15
            have Kf4 := Kf3.trans (Keep.grown hg15 (fun b hb => Nat.lt_of_lt_of_le (hF b hb) Kf3.size) (fun b e hb => hb.2.2.2 e))
            have hv15 : ∀ b, v15.ownBlock = some b → (Value.slice ka ns.length ck).ownBlock = some b ∨ w.heap.size ≤ b := fun b e => by
              rcases hl15 with h1 | h1
              · exact Or.inl (h1 ▸ e)
              · rw [h1] at e; injection e with e; exact Or.inr (by have := Kf3.size; omega)
            obtain ⟨ao15, cap15, rfl⟩ := own_shape ho15
            clear ho15 hg15 hl15 p14
            refine hK.out _ _ ?_ (fun _ => ?_)
            · exact True.intro
            clear hK K
            refine take_at 16 (some 48) (.pointer (some ⟨kb, 0, none⟩)) rfl rfl (by kernel_rfl) (by kernel_rfl) (by kernel_rfl) (fun _ _ _ h => h) (by rfl) (fun W hSw => by go_simp) True.intro ?_
            simp only [Act.put, List.setIfInBounds_toArray, List.set_cons_zero, List.set_cons_succ]
            refine take_at 17 (some 49) (.pointer (some ⟨kb, 0, none⟩)) rfl rfl (by kernel_rfl) (by kernel_rfl) (by kernel_rfl) (fun _ _ _ h => h) (by rfl) (fun W hSw => by go_simp) True.intro ?_
            simp only [Act.put, List.setIfInBounds_toArray, List.set_cons_zero, List.set_cons_succ]
            refine wpAnyH_ready (rs := [18]) (by kernel_rfl) (by simp) ?_
            refine AllReadyH.cons rfl (fun K hK => ?_) AllReadyH.nil
            have cc := hk4.c0
            have ff := hk4.f0
            go_simp
            clear cc ff
            have hkA := hk4.set0 (.slice ao8 (ns.length + 1) cap8)
            have KfA := Kf4.trans (Keep.grown (grown_set w4 kb 0 (.slice ao8 (ns.length + 1) cap8)) (fun b hb => Nat.lt_of_lt_of_le (hF b hb) Kf4.size) (fun b e hb => hb.2.1 (by injection e with e; exact e.symm)))
            generalize hw : w4.setCell ⟨kb, 0, none⟩ (.slice ao8 (ns.length + 1) cap8) = wA at *
            clear hw
            refine hK.out _ _ ?_ (fun _ => ?_)
            · exact True.intro
            clear hK K
            refine take_at 19 (some 50) (.pointer (some ⟨kb, 0, none⟩)) rfl rfl (by kernel_rfl) (by kernel_rfl) (by kernel_rfl) (fun _ _ _ h => h) (by rfl) (fun W hSw => by go_simp) True.intro ?_
            simp only [Act.put, List.setIfInBounds_toArray, List.set_cons_zero, List.set_cons_succ]
            refine take_at 20 (some 51) (.pointer (some ⟨kb, 1, none⟩)) rfl rfl (by kernel_rfl) (by kernel_rfl) (by kernel_rfl) (fun _ _ _ h => h) (by rfl) (fun W hSw => by go_simp) True.intro ?_
            simp only [Act.put, List.setIfInBounds_toArray, List.set_cons_zero, List.set_cons_succ]
            refine wpAnyH_ready (rs := [21]) (by kernel_rfl) (by simp) ?_
            refine AllReadyH.cons rfl (fun K hK => ?_) AllReadyH.nil
            have cc := hkA.c1
            have ff := hkA.f1
            go_simp
            clear cc ff
            have hkB := hkA.set1 (.slice ao15 (ns.length + 1) cap15)
            have KfB := KfA.trans (Keep.grown (grown_set wA kb 1 (.slice ao15 (ns.length + 1) cap15)) (fun b hb => Nat.lt_of_lt_of_le (hF b hb) KfA.size) (fun b e hb => hb.2.1 (by injection e with e; exact e.symm)))
            generalize hw : wA.setCell ⟨kb, 1, none⟩ (.slice ao15 (ns.length + 1) cap15) = wB at *
            clear hw
            refine hK.out _ _ ?_ (fun _ => ?_)
            · exact True.intro
            clear hK K
            refine wpAnyH_done (by kernel_rfl) ?_ _
            refine NoPanic.normal ?_
            go_wp2
            first | go_end0 | (refine bodyPost_ret (results_none rfl _ _ _) rfl ?_)
            exact ⟨rfl, _, _, by rw [HN'.out, HK'.out]; exact hkB, KfB, hv8, hv15⟩
        · go_simp
          have hz := bal (Below.refl _ w1) (.cells #[tx s] 9)
          have hk2 := hk1.later hz
          have Kf2 := Kf1.trans (Keep.of hz (fun b hb => Nat.lt_of_lt_of_le (hF b hb) Kf1.size))
          have p7 : (w1.alloc (.cells #[tx s] 9)).cell? ⟨w1.heap.size, 0, none⟩ = some (tx s) := by simp [go_sem]
          replace p14 := cell_later' p14 hz
          generalize hw : w1.alloc (.cells #[tx s] 9) = w2 at *
          clear hw hz
          refine hK.out _ _ ?_ (fun _ => ?_)
          · exact True.intro
          clear hK K
          refine wpAnyH_ready (rs := [5, 12]) (by kernel_rfl) (by simp) ?_
          refine AllReadyH.cons rfl (fun K hK => ?_) (AllReadyH.cons rfl (fun K hK => ?_) AllReadyH.nil)
          · have cc := hk2.c0
            go_simp
            refine hK.out _ _ ?_ (fun _ => ?_)
            · exact True.intro
            clear hK K
            clear cc
            refine wpAnyH_ready (rs := [8, 12]) (by kernel_rfl) (by simp) ?_
            refine AllReadyH.cons rfl (fun K hK => ?_) (AllReadyH.cons rfl (fun K hK => ?_) AllReadyH.nil)
            · refine step_append_at _ _ (some 40) 48 rfl rfl (by rfl) base 9 i9 (tx []) 1 16 Tryz.underlying48 hi9 hz90 hz91 hz92 rfl (by decide) (.slice na ns.length cn) _ _ rfl hk2.on ⟨w1.heap.size, 0, none⟩ 1 1 [tx s] rfl rfl (one_cell0 p7) (fun u hu => by simp at hu; subst hu; rfl) (by unfold maxLen; omega) (by omega) (Nat.le_trans hbw Kf2.size) ?_
              intro v8 w3 ho8 hg8 hl8
              have hk3 := hk2.grow8 ho8 hg8
              have Kf3 := Kf2.trans (Keep.grown hg8 (fun b hb => Nat.lt_of_lt_of_le (hF b hb) Kf2.size) (fun b e hb => hb.2.2.1 e))
              have hv8 : ∀ b, v8.ownBlock = some b → (Value.slice na ns.length cn).ownBlock = some b ∨ w.heap.size ≤ b := fun b e => by
                rcases hl8 with h1 | h1
                · exact Or.inl (h1 ▸ e)
                · rw [h1] at e; injection e with e; exact Or.inr (by have := Kf2.size; omega)
              replace p14 := grown_cell hg8 p14 (fun e => by have := hnl _ e.symm; have := Kf0.size; omega)
              obtain ⟨ao8, cap8, rfl⟩ := own_shape ho8
              clear ho8 hg8 hl8 p7
              refine hK.out _ _ ?_ (fun _ => ?_)
              · exact True.intro
              clear hK K
              refine wpAnyH_ready (rs := [12]) (by kernel_rfl) (by simp) ?_
              refine AllReadyH.cons rfl (fun K hK => ?_) AllReadyH.nil
              have cc := hk3.c1
              go_simp
              refine hK.out _ _ ?_ (fun _ => ?_)
              · exact True.intro
              clear hK K
              clear cc
              refine wpAnyH_ready (rs := [15]) (by kernel_rfl) (by simp) ?_
              refine AllReadyH.cons rfl (fun K hK => ?_) AllReadyH.nil
              refine step_append_at _ _ (some 47) 27 rfl rfl (by rfl) base 3 i3 (.int .i64 0) 1 8 Tryz.underlying27 hi3 hz30 hz31 hz32 rfl (by decide) (.slice ka ns.length ck) _ _ rfl (ok_at HLK.out hk3.ok) ⟨w0.heap.size, 0, none⟩ 1 1 [.int .i64 x] rfl rfl (one_cell0 p14) (fun u hu => by simp at hu; subst hu; rfl) (by unfold maxLen; omega) (by omega) (Nat.le_trans hbw Kf3.size) ?_
              intro v15 w4 ho15 hg15 hl15
              have hk4 := hk3.grow15 HLK.out ho15 hg15
              have Kf4 := Kf3.trans (Keep.grown hg15 (fun b hb => Nat.lt_of_lt_of_le (hF b hb) Kf3.size) (fun b e hb => hb.2.2.2 e))
              have hv15 : ∀ b, v15.ownBlock = some b → (Value.slice ka ns.length ck).ownBlock = some b ∨ w.heap.size ≤ b := fun b e => by
                rcases hl15 with h1 | h1
                · exact Or.inl (h1 ▸ e)
                · rw [h1] at e; injection e with e; exact Or.inr (by have := Kf3.size; omega)
              obtain ⟨ao15, cap15, rfl⟩ := own_shape ho15
              clear ho15 hg15 hl15 p14
              refine hK.out _ _ ?_ (fun _ => ?_)
              · exact True.intro
              clear hK K
              refine take_at 16 (some 48) (.pointer (some ⟨kb, 0, none⟩)) rfl rfl (by kernel_rfl) (by kernel_rfl) (by kernel_rfl) (fun _ _ _ h => h) (by rfl) (fun W hSw => by go_simp) True.intro ?_
              simp only [Act.put, List.setIfInBounds_toArray, List.set_cons_zero, List.set_cons_succ]
              refine take_at 17 (some 49) (.pointer (some ⟨kb, 0, none⟩)) rfl rfl (by kernel_rfl) (by kernel_rfl) (by kernel_rfl) (fun _ _ _ h => h) (by rfl) (fun W hSw => by go_simp) True.intro ?_
              simp only [Act.put, List.setIfInBounds_toArray, List.set_cons_zero, List.set_cons_succ]
              refine wpAnyH_ready (rs := [18]) (by kernel_rfl) (by simp) ?_
              refine AllReadyH.cons rfl (fun K hK => ?_) AllReadyH.nil
              have cc := hk4.c0
              have ff := hk4.f0
              go_simp
              clear cc ff
              have hkA := hk4.set0 (.slice ao8 (ns.length + 1) cap8)
              have KfA := Kf4.trans (Keep.grown (grown_set w4 kb 0 (.slice ao8 (ns.length + 1) cap8)) (fun b hb => Nat.lt_of_lt_of_le (hF b hb) Kf4.size) (fun b e hb => hb.2.1 (by injection e with e; exact e.symm)))
              generalize hw : w4.setCell ⟨kb, 0, none⟩ (.slice ao8 (ns.length + 1) cap8) = wA at *
              clear hw
              refine hK.out _ _ ?_ (fun _ => ?_)
              · exact True.intro
              clear hK K
              refine take_at 19 (some 50) (.pointer (some ⟨kb, 0, none⟩)) rfl rfl (by kernel_rfl) (by kernel_rfl) (by kernel_rfl) (fun _ _ _ h => h) (by rfl) (fun W hSw => by go_simp) True.intro ?_
              simp only [Act.put, List.setIfInBounds_toArray, List.set_cons_zero, List.set_cons_succ]
              refine take_at 20 (some 51) (.pointer (some ⟨kb, 1, none⟩)) rfl rfl (by kernel_rfl) (by kernel_rfl) (by kernel_rfl) (fun _ _ _ h => h) (by rfl) (fun W hSw => by go_simp) True.intro ?_
              simp only [Act.put, List.setIfInBounds_toArray, List.set_cons_zero, List.set_cons_succ]
              refine wpAnyH_ready (rs := [21]) (by kernel_rfl) (by simp) ?_
              refine AllReadyH.cons rfl (fun K hK => ?_) AllReadyH.nil
              have cc := hkA.c1
              have ff := hkA.f1
              go_simp
              clear cc ff
              have hkB := hkA.set1 (.slice ao15 (ns.length + 1) cap15)
              have KfB := KfA.trans (Keep.grown (grown_set wA kb 1 (.slice ao15 (ns.length + 1) cap15)) (fun b hb => Nat.lt_of_lt_of_le (hF b hb) KfA.size) (fun b e hb => hb.2.1 (by injection e with e; exact e.symm)))
              generalize hw : wA.setCell ⟨kb, 1, none⟩ (.slice ao15 (ns.length + 1) cap15) = wB at *
              clear hw
              refine hK.out _ _ ?_ (fun _ => ?_)
              · exact True.intro
              clear hK K
              refine wpAnyH_done (by kernel_rfl) ?_ _
              refine NoPanic.normal ?_
              go_wp2
              first | go_end0 | (refine bodyPost_ret (results_none rfl _ _ _) rfl ?_)
              exact ⟨rfl, _, _, by rw [HN'.out, HK'.out]; exact hkB, KfB, hv8, hv15⟩
            · have cc := hk2.c1
              go_simp
              refine hK.out _ _ ?_ (fun _ => ?_)
              · exact True.intro
              clear hK K
              clear cc
              refine wpAnyH_ready (rs := [8]) (by kernel_rfl) (by simp) ?_
              refine AllReadyH.cons rfl (fun K hK => ?_) AllReadyH.nil
              refine step_append_at _ _ (some 40) 48 rfl rfl (by rfl) base 9 i9 (tx []) 1 16 Tryz.underlying48 hi9 hz90 hz91 hz92 rfl (by decide) (.slice na ns.length cn) _ _ rfl hk2.on ⟨w1.heap.size, 0, none⟩ 1 1 [tx s] rfl rfl (one_cell0 p7) (fun u hu => by simp at hu; subst hu; rfl) (by unfold maxLen; omega) (by omega) (Nat.le_trans hbw Kf2.size) ?_
              intro v8 w3 ho8 hg8 hl8
              have hk3 := hk2.grow8 ho8 hg8
              have Kf3 := Kf2.trans (Keep.grown hg8 (fun b hb => Nat.lt_of_lt_of_le (hF b hb) Kf2.size) (fun b e hb => hb.2.2.1 e))
              have hv8 : ∀ b, v8.ownBlock = some b → (Value.slice na ns.length cn).ownBlock = some b ∨ w.heap.size ≤ b := fun b e => by
                rcases hl8 with h1 | h1
                · exact Or.inl (h1 ▸ e)
                · rw [h1] at e; injection e with e; exact Or.inr (by have := Kf2.size; omega)
              replace p14 := grown_cell hg8 p14 (fun e => by have := hnl _ e.symm; have := Kf0.size; omega)
              obtain ⟨ao8, cap8, rfl⟩ := own_shape ho8
              clear ho8 hg8 hl8 p7
              refine hK.out _ _ ?_ (fun _ => ?_)
              · exact True.intro
              clear hK K
              refine wpAnyH_ready (rs := [15]) (by kernel_rfl) (by simp) ?_
              refine AllReadyH.cons rfl (fun K hK => ?_) AllReadyH.nil
              refine step_append_at _ _ (some 47) 27 rfl rfl (by rfl) base 3 i3 (.int .i64 0) 1 8 Tryz.underlying27 hi3 hz30 hz31 hz32 rfl (by decide) (.slice ka ns.length ck) _ _ rfl (ok_at HLK.out hk3.ok) ⟨w0.heap.size, 0, none⟩ 1 1 [.int .i64 x] rfl rfl (one_cell0 p14) (fun u hu => by simp at hu; subst hu; rfl) (by unfold maxLen; omega) (by omega) (Nat.le_trans hbw Kf3.size) ?_
              intro v15 w4 ho15 hg15 hl15
              have hk4 := hk3.grow15 HLK.out ho15 hg15
              have Kf4 := Kf3.trans (Keep.grown hg15 (fun b hb => Nat.lt_of_lt_of_le (hF b hb) Kf3.size) (fun b e hb => hb.2.2.2 e))
              have hv15 : ∀ b, v15.ownBlock = some b → (Value.slice ka ns.length ck).ownBlock = some b ∨ w.heap.size ≤ b := fun b e => by
                rcases hl15 with h1 | h1
                · exact Or.inl (h1 ▸ e)
                · rw [h1] at e; injection e with e; exact Or.inr (by have := Kf3.size; omega)
              obtain ⟨ao15, cap15, rfl⟩ := own_shape ho15
              clear ho15 hg15 hl15 p14
              refine hK.out _ _ ?_ (fun _ => ?_)
              · exact True.intro
              clear hK K
              refine take_at 16 (some 48) (.pointer (some ⟨kb, 0, none⟩)) rfl rfl (by kernel_rfl) (by kernel_rfl) (by kernel_rfl) (fun _ _ _ h => h) (by rfl) (fun W hSw => by go_simp) True.intro ?_
              simp only [Act.put, List.setIfInBounds_toArray, List.set_cons_zero, List.set_cons_succ]
              refine take_at 17 (some 49) (.pointer (some ⟨kb, 0, none⟩)) rfl rfl (by kernel_rfl) (by kernel_rfl) (by kernel_rfl) (fun _ _ _ h => h) (by rfl) (fun W hSw => by go_simp) True.intro ?_
              simp only [Act.put, List.setIfInBounds_toArray, List.set_cons_zero, List.set_cons_succ]
              refine wpAnyH_ready (rs := [18]) (by kernel_rfl) (by simp) ?_
              refine AllReadyH.cons rfl (fun K hK => ?_) AllReadyH.nil
              have cc := hk4.c0
              have ff := hk4.f0
              go_simp
              clear cc ff
              have hkA := hk4.set0 (.slice ao8 (ns.length + 1) cap8)
              have KfA := Kf4.trans (Keep.grown (grown_set w4 kb 0 (.slice ao8 (ns.length + 1) cap8)) (fun b hb => Nat.lt_of_lt_of_le (hF b hb) Kf4.size) (fun b e hb => hb.2.1 (by injection e with e; exact e.symm)))
              generalize hw : w4.setCell ⟨kb, 0, none⟩ (.slice ao8 (ns.length + 1) cap8) = wA at *
              clear hw
              refine hK.out _ _ ?_ (fun _ => ?_)
              · exact True.intro
              clear hK K
              refine take_at 19 (some 50) (.pointer (some ⟨kb, 0, none⟩)) rfl rfl (by kernel_rfl) (by kernel_rfl) (by kernel_rfl) (fun _ _ _ h => h) (by rfl) (fun W hSw => by go_simp) True.intro ?_
              simp only [Act.put, List.setIfInBounds_toArray, List.set_cons_zero, List.set_cons_succ]
              refine take_at 20 (some 51) (.pointer (some ⟨kb, 1, none⟩)) rfl rfl (by kernel_rfl) (by kernel_rfl) (by kernel_rfl) (fun _ _ _ h => h) (by rfl) (fun W hSw => by go_simp) True.intro ?_
              simp only [Act.put, List.setIfInBounds_toArray, List.set_cons_zero, List.set_cons_succ]
              refine wpAnyH_ready (rs := [21]) (by kernel_rfl) (by simp) ?_
              refine AllReadyH.cons rfl (fun K hK => ?_) AllReadyH.nil
              have cc := hkA.c1
              have ff := hkA.f1
              go_simp
              clear cc ff
              have hkB := hkA.set1 (.slice ao15 (ns.length + 1) cap15)
              have KfB := KfA.trans (Keep.grown (grown_set wA kb 1 (.slice ao15 (ns.length + 1) cap15)) (fun b hb => Nat.lt_of_lt_of_le (hF b hb) KfA.size) (fun b e hb => hb.2.1 (by injection e with e; exact e.symm)))
              generalize hw : wA.setCell ⟨kb, 1, none⟩ (.slice ao15 (ns.length + 1) cap15) = wB at *
              clear hw
              refine hK.out _ _ ?_ (fun _ => ?_)
              · exact True.intro
              clear hK K
              refine wpAnyH_done (by kernel_rfl) ?_ _
              refine NoPanic.normal ?_
              go_wp2
              first | go_end0 | (refine bodyPost_ret (results_none rfl _ _ _) rfl ?_)
              exact ⟨rfl, _, _, by rw [HN'.out, HK'.out]; exact hkB, KfB, hv8, hv15⟩
          · have cc := hk2.c1
            go_simp
            refine hK.out _ _ ?_ (fun _ => ?_)
            · exact True.intro
            clear hK K
            clear cc
            refine wpAnyH_ready (rs := [5]) (by kernel_rfl) (by simp) ?_
            refine AllReadyH.cons rfl (fun K hK => ?_) AllReadyH.nil
            have cc := hk2.c0
            go_simp
            refine hK.out _ _ ?_ (fun _ => ?_)
            · exact True.intro
            clear hK K
            clear cc
            refine wpAnyH_ready (rs := [8]) (by kernel_rfl) (by simp) ?_
            refine AllReadyH.cons rfl (fun K hK => ?_) AllReadyH.nil
            refine step_append_at _ _ (some 40) 48 rfl rfl (by rfl) base 9 i9 (tx []) 1 16 Tryz.underlying48 hi9 hz90 hz91 hz92 rfl (by decide) (.slice na ns.length cn) _ _ rfl hk2.on ⟨w1.heap.size, 0, none⟩ 1 1 [tx s] rfl rfl (one_cell0 p7) (fun u hu => by simp at hu; subst hu; rfl) (by unfold maxLen; omega) (by omega) (Nat.le_trans hbw Kf2.size) ?_
            intro v8 w3 ho8 hg8 hl8
            have hk3 := hk2.grow8 ho8 hg8
            have Kf3 := Kf2.trans (Keep.grown hg8 (fun b hb => Nat.lt_of_lt_of_le (hF b hb) Kf2.size) (fun b e hb => hb.2.2.1 e))
            have hv8 : ∀ b, v8.ownBlock = some b → (Value.slice na ns.length cn).ownBlock = some b ∨ w.heap.size ≤ b := fun b e => by
              rcases hl8 with h1 | h1
              · exact Or.inl (h1 ▸ e)
              · rw [h1] at e; injection e with e; exact Or.inr (by have := Kf2.size; omega)
            replace p14 := grown_cell hg8 p14 (fun e => by have := hnl _ e.symm; have := Kf0.size; omega)
            obtain ⟨ao8, cap8, rfl⟩ := own_shape ho8
            clear ho8 hg8 hl8 p7
            refine hK.out _ _ ?_ (fun _ => ?_)
            · exact True.intro
            clear hK K
            refine wpAnyH_ready (rs := [15]) (by kernel_rfl) (by simp) ?_
            refine AllReadyH.cons rfl (fun K hK => ?_) AllReadyH.nil
            refine step_append_at _ _ (some 47) 27 rfl rfl (by rfl) base 3 i3 (.int .i64 0) 1 8 Tryz.underlying27 hi3 hz30 hz31 hz32 rfl (by decide) (.slice ka ns.length ck) _ _ rfl (ok_at HLK.out hk3.ok) ⟨w0.heap.size, 0, none⟩ 1 1 [.int .i64 x] rfl rfl (one_cell0 p14) (fun u hu => by simp at hu; subst hu; rfl) (by unfold maxLen; omega) (by omega) (Nat.le_trans hbw Kf3.size) ?_
            intro v15 w4 ho15 hg15 hl15
            have hk4 := hk3.grow15 HLK.out ho15 hg15
            have Kf4 := Kf3.trans (Keep.grown hg15 (fun b hb => Nat.lt_of_lt_of_le (hF b hb) Kf3.size) (fun b e hb => hb.2.2.2 e))
            have hv15 : ∀ b, v15.ownBlock = some b → (Value.slice ka ns.length ck).ownBlock = some b ∨ w.heap.size ≤ b := fun b e => by
              rcases hl15 with h1 | h1
              · exact Or.inl (h1 ▸ e)
              · rw [h1] at e; injection e with e; exact Or.inr (by have := Kf3.size; omega)
            obtain ⟨ao15, cap15, rfl⟩ := own_shape ho15
            clear ho15 hg15 hl15 p14
            refine hK.out _ _ ?_ (fun _ => ?_)
            · exact True.intro
            clear hK K
            refine take_at 16 (some 48) (.pointer (some ⟨kb, 0, none⟩)) rfl rfl (by kernel_rfl) (by kernel_rfl) (by kernel_rfl) (fun _ _ _ h => h) (by rfl) (fun W hSw => by go_simp) True.intro ?_
            simp only [Act.put, List.setIfInBounds_toArray, List.set_cons_zero, List.set_cons_succ]
            refine take_at 17 (some 49) (.pointer (some ⟨kb, 0, none⟩)) rfl rfl (by kernel_rfl) (by kernel_rfl) (by kernel_rfl) (fun _ _ _ h => h) (by rfl) (fun W hSw => by go_simp) True.intro ?_
            simp only [Act.put, List.setIfInBounds_toArray, List.set_cons_zero, List.set_cons_succ]
            refine wpAnyH_ready (rs := [18]) (by kernel_rfl) (by simp) ?_
            refine AllReadyH.cons rfl (fun K hK => ?_) AllReadyH.nil
            have cc := hk4.c0
            have ff := hk4.f0
            go_simp
            clear cc ff
            have hkA := hk4.set0 (.slice ao8 (ns.length + 1) cap8)
            have KfA := Kf4.trans (Keep.grown (grown_set w4 kb 0 (.slice ao8 (ns.length + 1) cap8)) (fun b hb => Nat.lt_of_lt_of_le (hF b hb) Kf4.size) (fun b e hb => hb.2.1 (by injection e with e; exact e.symm)))
            generalize hw : w4.setCell ⟨kb, 0, none⟩ (.slice ao8 (ns.length + 1) cap8) = wA at *
            clear hw
            refine hK.out _ _ ?_ (fun _ => ?_)
            · exact True.intro
            clear hK K
            refine take_at 19 (some 50) (.pointer (some ⟨kb, 0, none⟩)) rfl rfl (by kernel_rfl) (by kernel_rfl) (by kernel_rfl) (fun _ _ _ h => h) (by rfl) (fun W hSw => by go_simp) True.intro ?_
            simp only [Act.put, List.setIfInBounds_toArray, List.set_cons_zero, List.set_cons_succ]
            refine take_at 20 (some 51) (.pointer (some ⟨kb, 1, none⟩)) rfl rfl (by kernel_rfl) (by kernel_rfl) (by kernel_rfl) (fun _ _ _ h => h) (by rfl) (fun W hSw => by go_simp) True.intro ?_
            simp only [Act.put, List.setIfInBounds_toArray, List.set_cons_zero, List.set_cons_succ]
            refine wpAnyH_ready (rs := [21]) (by kernel_rfl) (by simp) ?_
            refine AllReadyH.cons rfl (fun K hK => ?_) AllReadyH.nil
            have cc := hkA.c1
            have ff := hkA.f1
            go_simp
            clear cc ff
            have hkB := hkA.set1 (.slice ao15 (ns.length + 1) cap15)
            have KfB := KfA.trans (Keep.grown (grown_set wA kb 1 (.slice ao15 (ns.length + 1) cap15)) (fun b hb => Nat.lt_of_lt_of_le (hF b hb) KfA.size) (fun b e hb => hb.2.1 (by injection e with e; exact e.symm)))
            generalize hw : wA.setCell ⟨kb, 1, none⟩ (.slice ao15 (ns.length + 1) cap15) = wB at *
            clear hw
            refine hK.out _ _ ?_ (fun _ => ?_)
            · exact True.intro
            clear hK K
            refine wpAnyH_done (by kernel_rfl) ?_ _
            refine NoPanic.normal ?_
            go_wp2
            first | go_end0 | (refine bodyPost_ret (results_none rfl _ _ _) rfl ?_)
            exact ⟨rfl, _, _, by rw [HN'.out, HK'.out]; exact hkB, KfB, hv8, hv15⟩
        · have cc := hk1.c1
          go_simp
          refine hK.out _ _ ?_ (fun _ => ?_)
          · exact True.intro
          clear hK K
          clear cc
          refine wpAnyH_ready (rs := [5, 7]) (by kernel_rfl) (by simp) ?_
          refine AllReadyH.cons rfl (fun K hK => ?_) (AllReadyH.cons rfl (fun K hK => ?_) AllReadyH.nil)
          · have cc := hk1.c0
            go_simp
            refine hK.out _ _ ?_ (fun _ => ?_)
            · exact True.intro
            clear hK K
            clear cc
            refine wpAnyH_ready (rs := [7]) (by kernel_rfl) (by simp) ?_
            refine AllReadyH.cons rfl (fun K hK => ?_) AllReadyH.nil
            go_simp
            have hz := bal (Below.refl _ w1) (.cells #[tx s] 9)
            have hk2 := hk1.later hz
            have Kf2 := Kf1.trans (Keep.of hz (fun b hb => Nat.lt_of_lt_of_le (hF b hb) Kf1.size))
            have p7 : (w1.alloc (.cells #[tx s] 9)).cell? ⟨w1.heap.size, 0, none⟩ = some (tx s) := by simp [go_sem]
            replace p14 := cell_later' p14 hz
            generalize hw : w1.alloc (.cells #[tx s] 9) = w2 at *
            clear hw hz
            refine hK.out _ _ ?_ (fun _ => ?_)
            · exact True.intro
            clear hK K
            refine wpAnyH_ready (rs := [8]) (by kernel_rfl) (by simp) ?_
            refine AllReadyH.cons rfl (fun K hK => ?_) AllReadyH.nil
            refine step_append_at _ _ (some 40) 48 rfl rfl (by rfl) base 9 i9 (tx []) 1 16 Tryz.underlying48 hi9 hz90 hz91 hz92 rfl (by decide) (.slice na ns.length cn) _ _ rfl hk2.on ⟨w1.heap.size, 0, none⟩ 1 1 [tx s] rfl rfl (one_cell0 p7) (fun u hu => by simp at hu; subst hu; rfl) (by unfold maxLen; omega) (by omega) (Nat.le_trans hbw Kf2.size) ?_
            intro v8 w3 ho8 hg8 hl8
            have hk3 := hk2.grow8 ho8 hg8
            have Kf3 := Kf2.trans (Keep.grown hg8 (fun b hb => Nat.lt_of_lt_of_le (hF b hb) Kf2.size) (fun b e hb => hb.2.2.1 e))
            have hv8 : ∀ b, v8.ownBlock = some b → (Value.slice na ns.length cn).ownBlock = some b ∨ w.heap.size ≤ b := fun b e => by
              rcases hl8 with h1 | h1
              · exact Or.inl (h1 ▸ e)
              · rw [h1] at e; injection e with e; exact Or.inr (by have := Kf2.size; omega)
            replace p14 := grown_cell hg8 p14 (fun e => by have := hnl _ e.symm; have := Kf0.size; omega)
            obtain ⟨ao8, cap8, rfl⟩ := own_shape ho8
            clear ho8 hg8 hl8 p7
            refine hK.out _ _ ?_ (fun _ => ?_)
            · exact True.intro
            clear hK K
            refine wpAnyH_ready (rs := [15]) (by kernel_rfl) (by simp) ?_
            refine AllReadyH.cons rfl (fun K hK => ?_) AllReadyH.nil
            refine step_append_at _ _ (some 47) 27 rfl rfl (by rfl) base 3 i3 (.int .i64 0) 1 8 Tryz.underlying27 hi3 hz30 hz31 hz32 rfl (by decide) (.slice ka ns.length ck) _ _ rfl (ok_at HLK.out hk3.ok) ⟨w0.heap.size, 0, none⟩ 1 1 [.int .i64 x] rfl rfl (one_cell0 p14) (fun u hu => by simp at hu; subst hu; rfl) (by unfold maxLen; omega) (by omega) (Nat.le_trans hbw Kf3.size) ?_
            intro v15 w4 ho15 hg15 hl15
            have hk4 := hk3.grow15 HLK.out ho15 hg15
            have Kf4 := Kf3.trans (Keep.grown hg15 (fun b hb => Nat.lt_of_lt_of_le (hF b hb) Kf3.size) (fun b e hb => hb.2.2.2 e))
            have hv15 : ∀ b, v15.ownBlock = some b → (Value.slice ka ns.length ck).ownBlock = some b ∨ w.heap.size ≤ b := fun b e => by
              rcases hl15 with h1 | h1
              · exact Or.inl (h1 ▸ e)
              · rw [h1] at e; injection e with e; exact Or.inr (by have := Kf3.size; omega)
            obtain ⟨ao15, cap15, rfl⟩ := own_shape ho15
            clear ho15 hg15 hl15 p14
            refine hK.out _ _ ?_ (fun _ => ?_)
            · exact True.intro
            clear hK K
            refine take_at 16 (some 48) (.pointer (some ⟨kb, 0, none⟩)) rfl rfl (by kernel_rfl) (by kernel_rfl) (by kernel_rfl) (fun _ _ _ h => h) (by rfl) (fun W hSw => by go_simp) True.intro ?_
            simp only [Act.put, List.setIfInBounds_toArray, List.set_cons_zero, List.set_cons_succ]
            refine take_at 17 (some 49) (.pointer (some ⟨kb, 0, none⟩)) rfl rfl (by kernel_rfl) (by kernel_rfl) (by kernel_rfl) (fun _ _ _ h => h) (by rfl) (fun W hSw => by go_simp) True.intro ?_
            simp only [Act.put, List.setIfInBounds_toArray, List.set_cons_zero, List.set_cons_succ]
            refine wpAnyH_ready (rs := [18]) (by kernel_rfl) (by simp) ?_
            refine AllReadyH.cons rfl (fun K hK => ?_) AllReadyH.nil
            have cc := hk4.c0
            have ff := hk4.f0
            go_simp
            clear cc ff
            have hkA := hk4.set0 (.slice ao8 (ns.length + 1) cap8)
            have KfA := Kf4.trans (Keep.grown (grown_set w4 kb 0 (.slice ao8 (ns.length + 1) cap8)) (fun b hb => Nat.lt_of_lt_of_le (hF b hb) Kf4.size) (fun b e hb => hb.2.1 (by injection e with e; exact e.symm)))
            generalize hw : w4.setCell ⟨kb, 0, none⟩ (.slice ao8 (ns.length + 1) cap8) = wA at *
            clear hw
            refine hK.out _ _ ?_ (fun _ => ?_)
            · exact True.intro
            clear hK K
            refine take_at 19 (some 50) (.pointer (some ⟨kb, 0, none⟩)) rfl rfl (by kernel_rfl) (by kernel_rfl) (by kernel_rfl) (fun _ _ _ h => h) (by rfl) (fun W hSw => by go_simp) True.intro ?_
            simp only [Act.put, List.setIfInBounds_toArray, List.set_cons_zero, List.set_cons_succ]
            refine take_at 20 (some 51) (.pointer (some ⟨kb, 1, none⟩)) rfl rfl (by kernel_rfl) (by kernel_rfl) (by kernel_rfl) (fun _ _ _ h => h) (by rfl) (fun W hSw => by go_simp) True.intro ?_
            simp only [Act.put, List.setIfInBounds_toArray, List.set_cons_zero, List.set_cons_succ]
            refine wpAnyH_ready (rs := [21]) (by kernel_rfl) (by simp) ?_
            refine AllReadyH.cons rfl (fun K hK => ?_) AllReadyH.nil
            have cc := hkA.c1
            have ff := hkA.f1
            go_simp
            clear cc ff
            have hkB := hkA.set1 (.slice ao15 (ns.length + 1) cap15)
            have KfB := KfA.trans (Keep.grown (grown_set wA kb 1 (.slice ao15 (ns.length + 1) cap15)) (fun b hb => Nat.lt_of_lt_of_le (hF b hb) KfA.size) (fun b e hb => hb.2.1 (by injection e with e; exact e.symm)))
            generalize hw : wA.setCell ⟨kb, 1, none⟩ (.slice ao15 (ns.length + 1) cap15) = wB at *
            clear hw
            refine hK.out _ _ ?_ (fun _ => ?_)
            · exact True.intro
            clear hK K
            refine wpAnyH_done (by kernel_rfl) ?_ _
            refine NoPanic.normal ?_
            go_wp2
            first | go_end0 | (refine bodyPost_ret (results_none rfl _ _ _) rfl ?_)
            exact ⟨rfl, _, _, by rw [HN'.out, HK'.out]; exact hkB, KfB, hv8, hv15⟩
          · go_simp
            have hz := bal (Below.refl _ w1) (.cells #[tx s] 9)
            have hk2 := hk1.later hz
            have Kf2 := Kf1.trans (Keep.of hz (fun b hb => Nat.lt_of_lt_of_le (hF b hb) Kf1.size))
            have p7 : (w1.alloc (.cells #[tx s] 9)).cell? ⟨w1.heap.size, 0, none⟩ = some (tx s) := by simp [go_sem]
            replace p14 := cell_later' p14 hz
            generalize hw : w1.alloc (.cells #[tx s] 9) = w2 at *
            clear hw hz
            refine hK.out _ _ ?_ (fun _ => ?_)
            · exact True.intro
            clear hK K
            refine wpAnyH_ready (rs := [5]) (by kernel_rfl) (by simp) ?_
            refine AllReadyH.cons rfl (fun K hK => ?_) AllReadyH.nil
            have cc := hk2.c0
            go_simp
            refine hK.out _ _ ?_ (fun _ => ?_)
            · exact True.intro
            clear hK K
            clear cc
            refine wpAnyH_ready (rs := [8]) (by kernel_rfl) (by simp) ?_
            refine AllReadyH.cons rfl (fun K hK => ?_) AllReadyH.nil
            refine step_append_at _ _ (some 40) 48 rfl rfl (by rfl) base 9 i9 (tx []) 1 16 Tryz.underlying48 hi9 hz90 hz91 hz92 rfl (by decide) (.slice na ns.length cn) _ _ rfl hk2.on ⟨w1.heap.size, 0, none⟩ 1 1 [tx s] rfl rfl (one_cell0 p7) (fun u hu => by simp at hu; subst hu; rfl) (by unfold maxLen; omega) (by omega) (Nat.le_trans hbw Kf2.size) ?_
            intro v8 w3 ho8 hg8 hl8
            have hk3 := hk2.grow8 ho8 hg8
            have Kf3 := Kf2.trans (Keep.grown hg8 (fun b hb => Nat.lt_of_lt_of_le (hF b hb) Kf2.size) (fun b e hb => hb.2.2.1 e))
            have hv8 : ∀ b, v8.ownBlock = some b → (Value.slice na ns.length cn).ownBlock = some b ∨ w.heap.size ≤ b := fun b e => by
              rcases hl8 with h1 | h1
              · exact Or.inl (h1 ▸ e)
              · rw [h1] at e; injection e with e; exact Or.inr (by have := Kf2.size; omega)
            replace p14 := grown_cell hg8 p14 (fun e => by have := hnl _ e.symm; have := Kf0.size; omega)
            obtain ⟨ao8, cap8, rfl⟩ := own_shape ho8
            clear ho8 hg8 hl8 p7
            refine hK.out _ _ ?_ (fun _ => ?_)
            · exact True.intro
            clear hK K
            refine wpAnyH_ready (rs := [15]) (by kernel_rfl) (by simp) ?_
            refine AllReadyH.cons rfl (fun K hK => ?_) AllReadyH.nil
            refine step_append_at _ _ (some 47) 27 rfl rfl (by rfl) base 3 i3 (.int .i64 0) 1 8 Tryz.underlying27 hi3 hz30 hz31 hz32 rfl (by decide) (.slice ka ns.length ck) _ _ rfl (ok_at HLK.out hk3.ok) ⟨w0.heap.size, 0, none⟩ 1 1 [.int .i64 x] rfl rfl (one_cell0 p14) (fun u hu => by simp at hu; subst hu; rfl) (by unfold maxLen; omega) (by omega) (Nat.le_trans hbw Kf3.size) ?_
            intro v15 w4 ho15 hg15 hl15
            have hk4 := hk3.grow15 HLK.out ho15 hg15
            have Kf4 := Kf3.trans (Keep.grown hg15 (fun b hb => Nat.lt_of_lt_of_le (hF b hb) Kf3.size) (fun b e hb => hb.2.2.2 e))
            have hv15 : ∀ b, v15.ownBlock = some b → (Value.slice ka ns.length ck).ownBlock = some b ∨ w.heap.size ≤ b := fun b e => by
              rcases hl15 with h1 | h1
              · exact Or.inl (h1 ▸ e)
              · rw [h1] at e; injection e with e; exact Or.inr (by have := Kf3.size; omega)
            obtain ⟨ao15, cap15, rfl⟩ := own_shape ho15
            clear ho15 hg15 hl15 p14
            refine hK.out _ _ ?_ (fun _ => ?_)
            · exact True.intro
            clear hK K
            refine take_at 16 (some 48) (.pointer (some ⟨kb, 0, none⟩)) rfl rfl (by kernel_rfl) (by kernel_rfl) (by kernel_rfl) (fun _ _ _ h => h) (by rfl) (fun W hSw => by go_simp) True.intro ?_
            simp only [Act.put, List.setIfInBounds_toArray, List.set_cons_zero, List.set_cons_succ]
            refine take_at 17 (some 49) (.pointer (some ⟨kb, 0, none⟩)) rfl rfl (by kernel_rfl) (by kernel_rfl) (by kernel_rfl) (fun _ _ _ h => h) (by rfl) (fun W hSw => by go_simp) True.intro ?_
            simp only [Act.put, List.setIfInBounds_toArray, List.set_cons_zero, List.set_cons_succ]
            refine wpAnyH_ready (rs := [18]) (by kernel_rfl) (by simp) ?_
            refine AllReadyH.cons rfl (fun K hK => ?_) AllReadyH.nil
            have cc := hk4.c0
            have ff := hk4.f0
            go_simp
            clear cc ff
            have hkA := hk4.set0 (.slice ao8 (ns.length + 1) cap8)
            have KfA := Kf4.trans (Keep.grown (grown_set w4 kb 0 (.slice ao8 (ns.length + 1) cap8)) (fun b hb => Nat.lt_of_lt_of_le (hF b hb) Kf4.size) (fun b e hb => hb.2.1 (by injection e with e; exact e.symm)))
            generalize hw : w4.setCell ⟨kb, 0, none⟩ (.slice ao8 (ns.length + 1) cap8) = wA at *
            clear hw
            refine hK.out _ _ ?_ (fun _ => ?_)
            · exact True.intro
            clear hK K
            refine take_at 19 (some 50) (.pointer (some ⟨kb, 0, none⟩)) rfl rfl (by kernel_rfl) (by kernel_rfl) (by kernel_rfl) (fun _ _ _ h => h) (by rfl) (fun W hSw => by go_simp) True.intro ?_
            simp only [Act.put, List.setIfInBounds_toArray, List.set_cons_zero, List.set_cons_succ]
            refine take_at 20 (some 51) (.pointer (some ⟨kb, 1, none⟩)) rfl rfl (by kernel_rfl) (by kernel_rfl) (by kernel_rfl) (fun _ _ _ h => h) (by rfl) (fun W hSw => by go_simp) True.intro ?_
            simp only [Act.put, List.setIfInBounds_toArray, List.set_cons_zero, List.set_cons_succ]
            refine wpAnyH_ready (rs := [21]) (by kernel_rfl) (by simp) ?_
            refine AllReadyH.cons rfl (fun K hK => ?_) AllReadyH.nil
            have cc := hkA.c1
            have ff := hkA.f1
            go_simp
            clear cc ff
            have hkB := hkA.set1 (.slice ao15 (ns.length + 1) cap15)
            have KfB := KfA.trans (Keep.grown (grown_set wA kb 1 (.slice ao15 (ns.length + 1) cap15)) (fun b hb => Nat.lt_of_lt_of_le (hF b hb) KfA.size) (fun b e hb => hb.2.1 (by injection e with e; exact e.symm)))
            generalize hw : wA.setCell ⟨kb, 1, none⟩ (.slice ao15 (ns.length + 1) cap15) = wB at *
            clear hw
            refine hK.out _ _ ?_ (fun _ => ?_)
            · exact True.intro
            clear hK K
            refine wpAnyH_done (by kernel_rfl) ?_ _
            refine NoPanic.normal ?_
            go_wp2
            first | go_end0 | (refine bodyPost_ret (results_none rfl _ _ _) rfl ?_)
            exact ⟨rfl, _, _, by rw [HN'.out, HK'.out]; exact hkB, KfB, hv8, hv15⟩
end Go.Proofs.YtcbjhfnlhpallaaGreatDoor
