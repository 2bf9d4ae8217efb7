/- Texts that the others lean on. -/
import Derived.Test.YtjgckfcocmhnhaaGreatDoorKMA
import Derived.BigRegion
import Derived.Test.YtjgckfcocmhnhaaGreatDoorKMB
import Derived.BigQuiet
import Derived.Lib.Walk
import Derived.Laws.OwnMore
import Derived.OwnWalk
namespace Go.Proofs.YtjgckfcocmhnhaaGreatDoor.Rn
open Go.RowKit
theorem grown_set (W : World) (b o : Nat) (v : Value) : W.grownBy (W.setCell ⟨b, o, none⟩ v) (some b) := ⟨rfl, rfl, rfl, by simp [World.setCell], fun k _ hne => Below.heap_setCell _ _ _ _ (fun e => hne (by rw [e]))⟩
theorem grown_below {w w' : World} (h : Below w.heap.size w w') (row : Option Nat) : w.grownBy w' row := ⟨h.os, h.tape, h.output, h.size, fun k hk _ => h.block k hk⟩
theorem grown_cell {w w' : World} {row : Option Nat} (hg : w.grownBy w' row) {b o : Nat} {v : Value} (h : w.cell? ⟨b, o, none⟩ = some v) (hne : some b ≠ row) : w'.cell? ⟨b, o, none⟩ = some v := hg.cell h hne
theorem grown_frozen {w w' : World} {row : Option Nat} (hg : w.grownBy w' row) {b o : Nat} (hb : b < w.heap.size) (h : w.frozen? ⟨b, o, none⟩ = false) (hne : some b ≠ row) : w'.frozen? ⟨b, o, none⟩ = false :=
 (World.frozen?_of_block (a := ⟨b, o, none⟩) (hg.block b hb hne)).trans h
theorem grown_above {B b : Nat} {a w w' : World} (h : Below B a w) (hg : w.grownBy w' (some b)) (hB : B ≤ w.heap.size) (hb : B ≤ b) : Below B a w' := h.grown hg hB (fun k hk => by cases hk; exact hb)
/-- A sample: its time, and its value's two cells. -/
abbrev Smp := Int × Bool × Int
abbrev sv (s : Smp) : Value := .agg #[.int .i64 s.1, .bool s.2.1, .int .i64 s.2.2]
def s0 : Smp := (0, false, 0)
structure Rg (w : World) (b : Nat) (f : Nat → Smp) (o c : Nat) (k now : Int) : Prop where
 ct : ∀ j, j < 100 → w.cell? ⟨b, j * 3, none⟩ = some (.int .i64 (f j).1)
 cv : ∀ j, j < 100 → w.cell? ⟨b, j * 3 + 1, none⟩ = some (.bool (f j).2.1)
 cn : ∀ j, j < 100 → w.cell? ⟨b, j * 3 + 2, none⟩ = some (.int .i64 (f j).2.2)
 co : w.cell? ⟨b, 300, none⟩ = some (.int .i64 o)
 cc : w.cell? ⟨b, 301, none⟩ = some (.int .i64 c)
 ck : w.cell? ⟨b, 302, none⟩ = some (.int .i64 k)
 cw : w.cell? ⟨b, 303, none⟩ = some (.int .i64 now)
 fz : ∀ j, j < 304 → w.frozen? ⟨b, j, none⟩ = false
theorem Rg.lt {w : World} {b : Nat} {f : Nat → Smp} {o c : Nat} {k now : Int} (h : Rg w b f o c k now) : b < w.heap.size := World.block_lt_of_cell? _ _ h.co
theorem Rg.kept {w w' : World} {b : Nat} {f : Nat → Smp} {o c : Nat} {k now : Int} (h : Rg w b f o c k now) {row : Option Nat} (hg : w.grownBy w' row) (hne : some b ≠ row) : Rg w' b f o c k now :=
 ⟨fun j hj => grown_cell hg (h.ct j hj) hne, fun j hj => grown_cell hg (h.cv j hj) hne, fun j hj => grown_cell hg (h.cn j hj) hne, grown_cell hg h.co hne, grown_cell hg h.cc hne, grown_cell hg h.ck hne, grown_cell hg h.cw hne, fun j hj => grown_frozen hg h.lt (h.fz j hj) hne⟩
theorem Rg.later {w w' : World} {b : Nat} {f : Nat → Smp} {o c : Nat} {k now : Int} (h : Rg w b f o c k now) (hb : Below w.heap.size w w') : Rg w' b f o c k now := h.kept (grown_below hb none) (by simp)
/-! ### A new one -/
def many : Nat → List Value → List Value
 | 0, r => r
 | n + 1, r => .int .i64 0 :: .bool false :: .int .i64 0 :: many n r
theorem cellsR_eq (k : Int) : Tryz.zeroCells80.setIfInBounds 302 (.int .i64 k) = (many 100 [.int .i64 0, .int .i64 0, .int .i64 k, .int .i64 0]).toArray := by kernel_rfl
theorem many_at : ∀ (n j : Nat) (r : List Value), j < n → (many n r)[j * 3]? = some (.int .i64 0) ∧ (many n r)[j * 3 + 1]? = some (.bool false) ∧ (many n r)[j * 3 + 2]? = some (.int .i64 0)
 | 0, _, _, h => absurd h (Nat.not_lt_zero _)
 | n + 1, 0, r, _ => ⟨rfl, rfl, rfl⟩
 | n + 1, j + 1, r, h => by
  obtain ⟨h0, h1, h2⟩ := many_at n j r (by omega)
  rw [show (j + 1) * 3 = j * 3 + 3 by omega]
  exact ⟨h0, h1, h2⟩
theorem Rg.new (w : World) (k : Int) : Rg (w.alloc (.cells (Tryz.zeroCells80.setIfInBounds 302 (.int .i64 k)) 80)) w.heap.size (fun _ => s0) 0 0 k 0 := by
 have hc : ∀ j v, (Tryz.zeroCells80.setIfInBounds 302 (.int .i64 k))[j]? = some v → (w.alloc (.cells (Tryz.zeroCells80.setIfInBounds 302 (.int .i64 k)) 80)).cell? ⟨w.heap.size, j, none⟩ = some v := fun j v h => (World.cell?_alloc_new w _ _ j).trans h
 have hm : ∀ j : Nat, (Tryz.zeroCells80.setIfInBounds 302 (.int .i64 k))[j]? = (many 100 [.int .i64 0, .int .i64 0, .int .i64 k, .int .i64 0])[j]? := fun j => by rw [cellsR_eq, List.getElem?_toArray]
 refine ⟨fun j hj => hc _ _ ?_, fun j hj => hc _ _ ?_, fun j hj => hc _ _ ?_, hc _ _ ((hm _).trans rfl), hc _ _ ((hm _).trans rfl), hc _ _ ((hm _).trans rfl), hc _ _ ((hm _).trans rfl), fun j _ => by simp [go_sem]⟩
 ·
  rw [hm]; exact (many_at 100 j _ hj).1
 ·
  rw [hm]; exact (many_at 100 j _ hj).2.1
 ·
  rw [hm]; exact (many_at 100 j _ hj).2.2
/-- How wide a window is. -/
def clamp (n : Int) : Int := if n < 1 then 1 else if 100 < n then 100 else n
theorem clamp_range (n : Int) : 1 ≤ clamp n ∧ clamp n ≤ 100 := by unfold clamp; split <;> (try split) <;> omega
set_option maxRecDepth 100000 in
set_option maxHeartbeats 1000000 in
theorem new_any (n : Int) (w : World) : Calls Tryz.prog 69 #[.int .i64 n] w fun e w' => e = .returned (.pointer (some ⟨w.heap.size, 0, none⟩)) ∧ Rg w' w.heap.size (fun _ => s0) 0 0 (clamp n) 0 ∧ Below w.heap.size w w' := by
 have H : Hid (∀ k, Rg (w.alloc (.cells (Tryz.zeroCells80.setIfInBounds 302 (.int .i64 k)) 80)) w.heap.size (fun _ => s0) 0 0 k 0) := Rg.new w
 rcases (by omega : n < 1 ∨ 100 < n ∨ (1 ≤ n ∧ n ≤ 100)) with h | h | ⟨h, h'⟩
 ·
  rw [show clamp n = 1 by unfold clamp; rw [if_pos h]]
  go_enter Tryz.func69, Tryz.ntmps69
  go_wp2_with fail <;> try omega
  go_ret
  first | exact ⟨rfl, H.out 1, bal (Below.refl _ _) _⟩ | (rw [show min (max n 1) 100 = (1 : Int) by omega]; exact ⟨rfl, H.out 1, bal (Below.refl _ _) _⟩)
 ·
  rw [show clamp n = 100 by unfold clamp; rw [if_neg (by omega), if_pos h]]
  go_enter Tryz.func69, Tryz.ntmps69
  go_wp2_with fail <;> try omega
  go_ret
  first | exact ⟨rfl, H.out 100, bal (Below.refl _ _) _⟩ | (rw [show min (max n 1) 100 = (100 : Int) by omega]; exact ⟨rfl, H.out 100, bal (Below.refl _ _) _⟩)
 ·
  rw [show clamp n = n by unfold clamp; rw [if_neg (by omega), if_neg (by omega)]]
  go_enter Tryz.func69, Tryz.ntmps69
  go_wp2_with fail <;> try omega
  all_goals go_ret
  all_goals first | exact ⟨rfl, H.out _, bal (Below.refl _ _) _⟩ | (rw [show min (max n 1) 100 = (n : Int) by omega]; exact ⟨rfl, H.out _, bal (Below.refl _ _) _⟩)
theorem place_any (b : Nat) (f : Nat → Smp) (o c : Nat) (k now : Int) (i : Nat) (w : World) (h : Rg w b f o c k now) (ho : o < 100) (hi : i ≤ 100) :
  Calls Tryz.prog 99 #[.pointer (some ⟨b, 0, none⟩), .int .i64 i] w fun e w' => e = .returned (.int .i64 ((o + i) % 100 : Nat)) ∧ w = w' := by
 have h1 := h.co
 have e1 : wrap64 ((o : Int) + i) = (o : Int) + i := by unfold wrap64; omega
 go_enter Tryz.func99, Tryz.ntmps99
 go_wp2
 go_ret
 exact ⟨ret_int (by omega), rfl⟩
set_option maxHeartbeats 1000000 in
theorem sample_any (b : Nat) (f : Nat → Smp) (o c : Nat) (k now : Int) (i : Nat) (w : World) (h : Rg w b f o c k now) (ho : o < 100) (hi : i ≤ 100) :
  Calls Tryz.prog 86 #[.pointer (some ⟨b, 0, none⟩), .int .i64 i] w fun e w' => e = .returned (sv (f ((o + i) % 100))) ∧ Below w.heap.size w w' := by
 have hb1 := bal (Below.refl _ w) (.cells #[.int .i64 0, .bool false, .int .i64 0] 35)
 have h1 := h.later hb1
 have hp := place_any b f o c k now i
 have hx : (o + i) % 100 < 100 := by omega
 have H1 : Hid _ := h1
 generalize (o + i) % 100 = x at *
 obtain c0 := h1.ct x hx
 obtain c1 := h1.cv x hx
 obtain c2 := h1.cn x hx
 go_enter Tryz.func86, Tryz.ntmps86
 go_wp2_with fail
 go_region_with (go_at_call 99; refine (hp _ (H1.out.later (by first | exact Below.refl _ _ | exact (Below.refl _ _).drew)) ho hi).mono ?_; rintro e w' ⟨rfl, rfl⟩)
 go_wp2
 exact bodyPost_ret (v := sv (f x)) (by simp [results, Tryz.results86, go_sem]) rfl ⟨rfl, (bal (Below.refl _ _) _).drew⟩
end Go.Proofs.YtjgckfcocmhnhaaGreatDoor.Rn
namespace Go.Proofs.YtjgckfcocmhnhaaGreatDoor.Rn
open Go.RowKit
/-- A window's samples, in order, its width, its time. -/
structure Wf (l : List Smp) (k nw : Int) : Prop where
 k1 : 1 ≤ k ∧ k ≤ 100
 n1 : 0 ≤ nw ∧ nw ≤ 1000000
 so : l.Pairwise (fun a b => a.1 < b.1)
 at_ : ∀ s ∈ l, nw - k < s.1 ∧ s.1 ≤ nw ∧ 0 ≤ s.1
 rg : ∀ s ∈ l, R64 s.2.2
theorem count_sorted : ∀ (l : List Smp) (lo hi : Int), l.Pairwise (fun a b => a.1 < b.1) → (∀ s ∈ l, lo < s.1 ∧ s.1 ≤ hi) → lo ≤ hi → (l.length : Int) ≤ hi - lo
 | [], lo, hi, _, _, h => by simp; omega
 | a :: l, lo, hi, hp, ha, h => by
  rw [List.pairwise_cons] at hp
  have h1 := ha a List.mem_cons_self
  have := count_sorted l a.1 hi hp.2 (fun s hs => ⟨hp.1 s hs, (ha s (List.mem_cons_of_mem _ hs)).2⟩) h1.2
  rw [List.length_cons]
  omega
theorem Wf.len {l : List Smp} {k nw : Int} (h : Wf l k nw) : (l.length : Int) ≤ k := by
 have := count_sorted l (nw - k) nw h.so (fun s hs => ⟨(h.at_ s hs).1, (h.at_ s hs).2.1⟩) (by have := h.k1; omega)
 omega
theorem Wf.le {l : List Smp} {k nw : Int} (h : Wf l k nw) : l.length ≤ 100 := by
 have := h.len
 have := h.k1
 omega
theorem Wf.none {k nw : Int} (hk : 1 ≤ k ∧ k ≤ 100) (hn : 0 ≤ nw ∧ nw ≤ 1000000) : Wf [] k nw := ⟨hk, hn, List.Pairwise.nil, (by intro s h; cases h), (by intro s h; cases h)⟩
/-- What is at most t goes, from the oldest one on. -/
def fg (t : Int) : List Smp → List Smp
 | [] => []
 | s :: r => if s.1 ≤ t then fg t r else s :: r
theorem fg_sub (t : Int) : ∀ l, (fg t l).Sublist l
 | [] => List.Sublist.refl _
 | s :: r => by
  unfold fg
  split
  ·
   exact (fg_sub t r).trans (List.sublist_cons_self s r)
  ·
   exact List.Sublist.refl _
theorem fg_above (t : Int) : ∀ l : List Smp, l.Pairwise (fun a b => a.1 < b.1) → ∀ s ∈ fg t l, t < s.1
 | [], _, s, h => by cases h
 | a :: r, hp, s, h => by
  rw [List.pairwise_cons] at hp
  unfold fg at h
  split at h
  ·
   exact fg_above t r hp.2 s h
  ·
   rcases List.mem_cons.1 h with rfl | h
   ·
    omega
   ·
    have := hp.1 s h
    omega
/-- What time it is, when it is told to be n. -/
def onw (nw n : Int) : Int := max nw (min n 1000000)
theorem onw_range {nw : Int} (n : Int) (h : 0 ≤ nw ∧ nw ≤ 1000000) : nw ≤ onw nw n ∧ 0 ≤ onw nw n ∧ onw nw n ≤ 1000000 := by unfold onw; omega
theorem Wf.advance {l : List Smp} {k nw : Int} (h : Wf l k nw) (n : Int) : Wf (fg (onw nw n - k) l) k (onw nw n) := by
 have hr := onw_range n h.n1
 refine ⟨h.k1, hr.2, h.so.sublist (fg_sub _ l), fun s hs => ?_, fun s hs => h.rg s ((fg_sub _ l).subset hs)⟩
 have h1 := fg_above _ l h.so s hs
 have h2 := h.at_ s ((fg_sub _ l).subset hs)
 omega
/-- A sample as it is told. -/
def nrm (s : Smp) : Smp := (s.1, ov (cnt s.2.1 s.2.2), nn (cnt s.2.1 s.2.2))
def lst (l : List Smp) : Smp := l.getD (l.length - 1) s0
/-- Why a sample is none of a window's, or 0. -/
def adE (l : List Smp) (k nw : Int) (t : Int) : Int := if t < 0 ∨ nw < t ∨ t ≤ nw - k then 152 else if l ≠ [] ∧ t ≤ (lst l).1 then 150 else 0
def adL (l : List Smp) (k nw : Int) (s : Smp) : List Smp := if adE l k nw s.1 = 0 then l ++ [nrm s] else l
theorem lst_snoc (l : List Smp) (s : Smp) : lst (l ++ [s]) = s := by
 unfold lst
 rw [List.length_append, List.length_singleton, Nat.add_sub_cancel, List.getD_eq_getElem?_getD, List.getElem?_append_right (Nat.le_refl _), Nat.sub_self]
 rfl
theorem lst_mem {l : List Smp} (h : l ≠ []) : lst l ∈ l := by
 have hp := List.length_pos_iff.2 h
 unfold lst
 rw [List.getD_eq_getElem?_getD, List.getElem?_eq_getElem (by omega)]
 exact List.getElem_mem _
theorem lst_last {l : List Smp} (hp : l.Pairwise (fun a b => a.1 < b.1)) : ∀ s ∈ l, s.1 ≤ (lst l).1 := by
 rcases List.eq_nil_or_concat l with rfl | ⟨r, x, rfl⟩
 ·
  intro s h; cases h
 ·
  intro s hs
  rw [List.concat_eq_append] at *
  rw [lst_snoc]
  rcases List.mem_append.1 hs with h | h
  ·
   exact Int.le_of_lt ((List.pairwise_append.1 hp).2.2 s h x List.mem_cons_self)
  ·
   rcases List.mem_cons.1 h with rfl | h
   ·
    exact Int.le_refl _
   ·
    cases h
theorem nrm_r64 (s : Smp) (h : R64 s.2.2) : R64 (nrm s).2.2 := by
 have := V.cnt (o := s.2.1) h.1 h.2
 exact ⟨by have := this.1; show _ ≤ nn _; omega, this.2⟩
theorem Wf.add {l : List Smp} {k nw : Int} (h : Wf l k nw) (s : Smp) (hs : R64 s.2.2) : Wf (adL l k nw s) k nw := by
 unfold adL
 split
 ·
  rename_i he
  unfold adE at he
  by_cases h1 : s.1 < 0 ∨ nw < s.1 ∨ s.1 ≤ nw - k
  ·
   rw [if_pos h1] at he; cases he
  ·
   rw [if_neg h1] at he
   by_cases h2 : l ≠ [] ∧ s.1 ≤ (lst l).1
   ·
    rw [if_pos h2] at he; cases he
   ·
    refine ⟨h.k1, h.n1, List.pairwise_append.2 ⟨h.so, List.pairwise_singleton _ _, fun a ha b hb => ?_⟩, fun x hx => ?_, fun x hx => ?_⟩
    ·
     obtain rfl : b = nrm s := by simpa using hb
     have hne : l ≠ [] := fun e => by rw [e] at ha; cases ha
     have h3 := lst_last h.so a ha
     have h4 : ¬ s.1 ≤ (lst l).1 := fun e => h2 ⟨hne, e⟩
     show a.1 < s.1
     omega
    ·
     rcases List.mem_append.1 hx with hx | hx
     ·
      exact h.at_ x hx
     ·
      obtain rfl : x = nrm s := by simpa using hx
      show nw - k < s.1 ∧ s.1 ≤ nw ∧ 0 ≤ s.1
      omega
    ·
     rcases List.mem_append.1 hx with hx | hx
     ·
      exact h.rg x hx
     ·
      obtain rfl : x = nrm s := by simpa using hx
      exact nrm_r64 s hs
 ·
  exact h
/-- The values of samples. -/
def vls (l : List Smp) : List (Bool × Int) := l.map (·.2)
def dltP (l : List Smp) : Option Int := fAdd (cnt (lst l).2.1 (lst l).2.2) (fNeg (cnt (l.getD 0 s0).2.1 (l.getD 0 s0).2.2))
end Go.Proofs.YtjgckfcocmhnhaaGreatDoor.Rn
namespace Go.Proofs.YtjgckfcocmhnhaaGreatDoor.Rn
open Go.RowKit
theorem set_at {w : World} {b q j : Nat} {u v : Value} (h : w.cell? ⟨b, q, none⟩ = some u) : (w.setCell ⟨b, q, none⟩ v).cell? ⟨b, j, none⟩ = if j = q then some v else w.cell? ⟨b, j, none⟩ := by
 by_cases e : j = q
 ·
  subst e
  rw [if_pos rfl, set_same h]
 ·
  rw [if_neg e, set_other (by intro x; injection x with _ x _; exact e x.symm)]
theorem set_ne {w : World} {b q j : Nat} {v : Value} (h : j ≠ q) : (w.setCell ⟨b, q, none⟩ v).cell? ⟨b, j, none⟩ = w.cell? ⟨b, j, none⟩ := set_other (by intro x; injection x with _ x _; exact h x.symm)
abbrev set3 (w : World) (b q : Nat) (s : Smp) : World := ((w.setCell ⟨b, q, none⟩ (.int .i64 s.1)).setCell ⟨b, q + 1, none⟩ (.bool s.2.1)).setCell ⟨b, q + 2, none⟩ (.int .i64 s.2.2)
theorem grown3 (w : World) (b q : Nat) (s : Smp) : w.grownBy (set3 w b q s) (some b) := ((grown_set _ _ _ _).trans (grown_set _ _ _ _)).trans (grown_set _ _ _ _)
theorem set3_other (w : World) (b q : Nat) (s : Smp) {j : Nat} (h : j < q ∨ q + 2 < j) : (set3 w b q s).cell? ⟨b, j, none⟩ = w.cell? ⟨b, j, none⟩ := by
 rw [set_ne (by omega), set_ne (by omega), set_ne (by omega)]
theorem set3_same {w : World} {b q : Nat} {u0 u1 u2 : Value} (s : Smp) (h0 : w.cell? ⟨b, q, none⟩ = some u0) (h1 : w.cell? ⟨b, q + 1, none⟩ = some u1) (h2 : w.cell? ⟨b, q + 2, none⟩ = some u2) :
  (set3 w b q s).cell? ⟨b, q, none⟩ = some (.int .i64 s.1) ∧ (set3 w b q s).cell? ⟨b, q + 1, none⟩ = some (.bool s.2.1) ∧ (set3 w b q s).cell? ⟨b, q + 2, none⟩ = some (.int .i64 s.2.2) := by
 refine ⟨?_, ?_, ?_⟩
 ·
  rw [set_ne (by omega), set_ne (by omega), set_same h0]
 ·
  rw [set_ne (by omega)]
  exact set_same ((set_ne (by omega)).trans h1)
 ·
  exact set_same ((set_ne (by omega)).trans ((set_ne (by omega)).trans h2))
theorem set3_frozen (w : World) (b q : Nat) (s : Smp) (a : Addr) : (set3 w b q s).frozen? a = w.frozen? a := by simp
theorem Rg.put {w : World} {b : Nat} {f : Nat → Smp} {o c : Nat} {k now : Int} (h : Rg w b f o c k now) {x : Nat} (hx : x < 100) (s : Smp) : Rg (set3 w b (x * 3) s) b (fun j => if j = x then s else f j) o c k now := by
 obtain ⟨p0, p1, p2⟩ := set3_same s (h.ct x hx) (h.cv x hx) (h.cn x hx)
 refine ⟨fun j hj => ?_, fun j hj => ?_, fun j hj => ?_, (set3_other _ _ _ _ (by omega)).trans h.co, (set3_other _ _ _ _ (by omega)).trans h.cc, (set3_other _ _ _ _ (by omega)).trans h.ck, (set3_other _ _ _ _ (by omega)).trans h.cw, fun j hj => (set3_frozen _ _ _ _ _).trans (h.fz j hj)⟩
 all_goals
  by_cases e : j = x
  ·
   subst e
   rw [if_pos rfl]
   first | exact p0 | exact p1 | exact p2
  ·
   rw [if_neg e]
   first | exact (set3_other _ _ _ _ (by omega)).trans (h.ct j hj) | exact (set3_other _ _ _ _ (by omega)).trans (h.cv j hj) | exact (set3_other _ _ _ _ (by omega)).trans (h.cn j hj)
theorem Rg.setO {w : World} {b : Nat} {f : Nat → Smp} {o c : Nat} {k now : Int} (h : Rg w b f o c k now) (o' : Nat) : Rg (w.setCell ⟨b, 300, none⟩ (.int .i64 o')) b f o' c k now :=
 ⟨fun j hj => (set_ne (by omega)).trans (h.ct j hj), fun j hj => (set_ne (by omega)).trans (h.cv j hj), fun j hj => (set_ne (by omega)).trans (h.cn j hj), set_same h.co, (set_ne (by omega)).trans h.cc, (set_ne (by omega)).trans h.ck, (set_ne (by omega)).trans h.cw, fun j hj => by simpa using h.fz j hj⟩
theorem Rg.setC {w : World} {b : Nat} {f : Nat → Smp} {o c : Nat} {k now : Int} (h : Rg w b f o c k now) (c' : Nat) : Rg (w.setCell ⟨b, 301, none⟩ (.int .i64 c')) b f o c' k now :=
 ⟨fun j hj => (set_ne (by omega)).trans (h.ct j hj), fun j hj => (set_ne (by omega)).trans (h.cv j hj), fun j hj => (set_ne (by omega)).trans (h.cn j hj), (set_ne (by omega)).trans h.co, set_same h.cc, (set_ne (by omega)).trans h.ck, (set_ne (by omega)).trans h.cw, fun j hj => by simpa using h.fz j hj⟩
theorem Rg.setN {w : World} {b : Nat} {f : Nat → Smp} {o c : Nat} {k now : Int} (h : Rg w b f o c k now) (n : Int) : Rg (w.setCell ⟨b, 303, none⟩ (.int .i64 n)) b f o c k n :=
 ⟨fun j hj => (set_ne (by omega)).trans (h.ct j hj), fun j hj => (set_ne (by omega)).trans (h.cv j hj), fun j hj => (set_ne (by omega)).trans (h.cn j hj), (set_ne (by omega)).trans h.co, (set_ne (by omega)).trans h.cc, (set_ne (by omega)).trans h.ck, set_same h.cw, fun j hj => by simpa using h.fz j hj⟩
/-- A sample in a block of its own. -/
structure BoxS (w : World) (b : Nat) (s : Smp) : Prop where
 c0 : w.cell? ⟨b, 0, none⟩ = some (.int .i64 s.1)
 c1 : w.cell? ⟨b, 1, none⟩ = some (.bool s.2.1)
 c2 : w.cell? ⟨b, 2, none⟩ = some (.int .i64 s.2.2)
 f0 : w.frozen? ⟨b, 0, none⟩ = false
 f1 : w.frozen? ⟨b, 1, none⟩ = false
 f2 : w.frozen? ⟨b, 2, none⟩ = false
theorem BoxS.new (w : World) (s : Smp) : BoxS (w.alloc (.cells #[.int .i64 s.1, .bool s.2.1, .int .i64 s.2.2] 35)) w.heap.size s := by
 constructor <;> simp [go_sem]
theorem BoxS.lt {w : World} {b : Nat} {s : Smp} (h : BoxS w b s) : b < w.heap.size := World.block_lt_of_cell? _ _ h.c0
theorem BoxS.kept {w w' : World} {b : Nat} {s : Smp} (h : BoxS w b s) {row : Option Nat} (hg : w.grownBy w' row) (hne : some b ≠ row) : BoxS w' b s :=
 ⟨grown_cell hg h.c0 hne, grown_cell hg h.c1 hne, grown_cell hg h.c2 hne, grown_frozen hg h.lt h.f0 hne, grown_frozen hg h.lt h.f1 hne, grown_frozen hg h.lt h.f2 hne⟩
theorem BoxS.later {w w' : World} {b : Nat} {s : Smp} (h : BoxS w b s) (hb : Below w.heap.size w w') : BoxS w' b s := h.kept (grown_below hb none) (by simp)
theorem BoxS.put {w : World} {b : Nat} {s : Smp} (h : BoxS w b s) (t : Smp) : BoxS (set3 w b 0 t) b t := by
 obtain ⟨p0, p1, p2⟩ := set3_same t h.c0 h.c1 h.c2
 exact ⟨p0, p1, p2, (set3_frozen _ _ _ _ _).trans h.f0, (set3_frozen _ _ _ _ _).trans h.f1, (set3_frozen _ _ _ _ _).trans h.f2⟩
theorem below3 {B : Nat} {a w : World} (h : Below B a w) {b : Nat} (hb : B ≤ b) (q : Nat) (s : Smp) : Below B a (set3 w b q s) := ((h.setCell (p := ⟨b, q, none⟩) hb _).setCell (p := ⟨b, q + 1, none⟩) hb _).setCell (p := ⟨b, q + 2, none⟩) hb _
/-- A window that holds these samples. -/
def Rl (w : World) (b : Nat) (l : List Smp) (k now : Int) : Prop := ∃ f o, o < 100 ∧ l.length ≤ 100 ∧ Rg w b f o l.length k now ∧ ∀ i, i < l.length → f ((o + i) % 100) = l.getD i s0
theorem Rl.kept {w w' : World} {b : Nat} {l : List Smp} {k now : Int} (h : Rl w b l k now) {row : Option Nat} (hg : w.grownBy w' row) (hne : some b ≠ row) : Rl w' b l k now := by
 obtain ⟨f, o, ho, hl, hr, hf⟩ := h
 exact ⟨f, o, ho, hl, hr.kept hg hne, hf⟩
theorem Rl.later {w w' : World} {b : Nat} {l : List Smp} {k now : Int} (h : Rl w b l k now) (hb : Below w.heap.size w w') : Rl w' b l k now := h.kept (grown_below hb none) (by simp)
theorem Rl.lt {w : World} {b : Nat} {l : List Smp} {k now : Int} (h : Rl w b l k now) : b < w.heap.size := by
 obtain ⟨f, o, ho, hl, hr, hf⟩ := h
 exact hr.lt
theorem Rl.new {w : World} {b : Nat} {k now : Int} (h : Rg w b (fun _ => s0) 0 0 k now) : Rl w b [] k now := ⟨_, 0, by omega, by simp, h, fun i hi => absurd hi (Nat.not_lt_zero _)⟩
theorem Rl.push {w' : World} {b : Nat} {f : Nat → Smp} {o : Nat} {l : List Smp} {k now : Int} {s : Smp} (ho : o < 100) (hl : l.length < 100) (hf : ∀ i, i < l.length → f ((o + i) % 100) = l.getD i s0)
  (h : Rg w' b (fun j => if j = (o + l.length) % 100 then s else f j) o (l.length + 1) k now) : Rl w' b (l ++ [s]) k now := by
 have e : (l ++ [s]).length = l.length + 1 := by simp
 refine ⟨_, o, ho, by omega, by rw [e]; exact h, fun i hi => ?_⟩
 rw [e] at hi
 by_cases h1 : i = l.length
 ·
  subst h1
  rw [if_pos rfl, List.getD_eq_getElem?_getD, List.getElem?_append_right (Nat.le_refl _), Nat.sub_self]
  rfl
 ·
  rw [if_neg (by omega), hf i (by omega), List.getD_eq_getElem?_getD, List.getD_eq_getElem?_getD, List.getElem?_append_left (by omega)]
theorem Rl.pop {w' : World} {b : Nat} {f : Nat → Smp} {o : Nat} {s : Smp} {l : List Smp} {k now : Int} (hl : l.length + 1 ≤ 100) (hf : ∀ i, i < l.length + 1 → f ((o + i) % 100) = (s :: l).getD i s0)
  (h : Rg w' b f ((o + 1) % 100) l.length k now) : Rl w' b l k now := by
 refine ⟨f, (o + 1) % 100, by omega, by omega, h, fun i hi => ?_⟩
 rw [show ((o + 1) % 100 + i) % 100 = (o + (i + 1)) % 100 by omega, hf (i + 1) (by omega)]
 rfl
end Go.Proofs.YtjgckfcocmhnhaaGreatDoor.Rn
namespace Go.Proofs.YtjgckfcocmhnhaaGreatDoor.Rn
open Go.RowKit
theorem len_any (b : Nat) (l : List Smp) (k now : Int) (w : World) (h : Rl w b l k now) :
  Calls Tryz.prog 30 #[.pointer (some ⟨b, 0, none⟩)] w fun e w' => e = .returned (.int .i64 l.length) ∧ w = w' := by
 obtain ⟨f, o, ho, hl, hr, hf⟩ := h
 have h1 := hr.cc
 go_enter Tryz.func30, Tryz.ntmps30
 go_wp2
 go_ret
 exact ⟨rfl, rfl⟩
theorem at_mono (l : List Smp) (b : Nat) (f : Nat → Smp) (o : Nat) (k now : Int) (i : Nat) (w : World) (hr : Rg w b f o l.length k now) (ho : o < 100) (hl : l.length ≤ 100) (hf : ∀ i, i < l.length → f ((o + i) % 100) = l.getD i s0) (hi : i < l.length) :
  Calls Tryz.prog 86 #[.pointer (some ⟨b, 0, none⟩), .int .i64 i] w fun e w' => e = .returned (sv (l.getD i s0)) ∧ Below w.heap.size w w' := by
 have h := sample_any b f o l.length k now i w hr ho (by omega)
 rw [hf i hi] at h
 exact h
theorem at_any (b : Nat) (l : List Smp) (k now : Int) (i : Nat) (w : World) (h : Rl w b l k now) (hi : i < l.length) :
  Calls Tryz.prog 86 #[.pointer (some ⟨b, 0, none⟩), .int .i64 i] w fun e w' => e = .returned (sv (l.getD i s0)) ∧ Below w.heap.size w w' := by
 obtain ⟨f, o, ho, hl, hr, hf⟩ := h
 exact at_mono l b f o k now i w hr ho hl hf hi
set_option maxHeartbeats 1000000 in
theorem last_any (b : Nat) (l : List Smp) (k now : Int) (w : World) (h : Rl w b l k now) :
  Calls Tryz.prog 58 #[.pointer (some ⟨b, 0, none⟩)] w fun e w' => e = .returned (.tuple #[sv (lst l), .bool (!l.isEmpty)]) ∧ Below w.heap.size w w' := by
 have hb1 := bal (Below.refl _ w) (.cells #[.int .i64 0, .bool false, .int .i64 0] 35)
 have hR := h.later hb1
 obtain ⟨f, o, ho, hl, hr, hf⟩ := h
 have h1 := (hr.later hb1).cc
 cases hle : l with
 | nil =>
  subst hle
  clear hf
  go_enter Tryz.func58, Tryz.ntmps58
  go_wp2
  exact bodyPost_ret (v := .tuple #[sv s0, .bool false]) (by simp [results, Tryz.results58, go_sem, s0]) rfl ⟨rfl, bal (Below.refl _ _) _⟩
 | cons y ys =>
  rw [← hle]
  have hp : l.length = ys.length + 1 := by rw [hle]; rfl
  have hs := at_any b l k now (l.length - 1) _ hR (by omega)
  have he : l.isEmpty = false := by rw [hle]; rfl
  rw [he]
  rw [hp] at h1
  have e2 : l.length - 1 = ys.length := by omega
  rw [e2] at hs
  have HL : Hid (l.getD ys.length s0 = lst l) := by show _ = _; unfold lst; rw [e2]
  rw [HL.out] at hs
  have hm : ys.length < 100 := by omega
  have h2 : (((ys.length + 1 : Nat) : Int) == 0) = false := by simp; omega
  have e3 : wrap64 ((ys.length + 1 : Nat) - 1 : Int) = (ys.length : Int) := by unfold wrap64; omega
  have hx := BoxS.new w s0
  generalize ys.length = m at *
  generalize lst l = s at *
  clear hf hR hr he hle hp e2
  have e4 : wrap64 (m : Int) = (m : Int) := by unfold wrap64; omega
  go_enter Tryz.func58, Tryz.ntmps58
  go_wp2_with fail
  refine hs.mono ?_
  rintro e w1 ⟨rfl, hb2⟩
  have hx2 := hx.later hb2
  obtain ⟨c0, c1, c2, f0, f1, f2⟩ := id hx2
  obtain ⟨d0, d1, d2, _, _, _⟩ := hx2.put s
  go_wp2
  exact bodyPost_ret (v := .tuple #[sv s, .bool true]) (by simp [results, Tryz.results58, go_sem, d0, d1, d2]) rfl ⟨rfl, below3 (Below.chain hb1 hb2) (Nat.le_refl _) 0 s⟩
set_option maxHeartbeats 1000000 in
theorem push_rg (b : Nat) (f : Nat → Smp) (o c : Nat) (k now : Int) (s : Smp) (w : World) (hr : Rg w b f o c k now) (ho : o < 100) (hl : c < 100) :
  Calls Tryz.prog 68 #[.pointer (some ⟨b, 0, none⟩), sv s] w fun e w' => e = .returned (.tuple #[]) ∧ Rg w' b (fun j => if j = (o + c) % 100 then s else f j) o (c + 1) k now ∧ w.grownBy w' (some b) := by
 have hb1 := bal (Below.refl _ w) (.cells #[.int .i64 s.1, .bool s.2.1, .int .i64 s.2.2] 35)
 have hr1 := hr.later hb1
 have hbn : b ≠ w.heap.size := by have := hr.lt; omega
 have hx := BoxS.new w s
 have hpl := place_any b f o c k now c
 have hx1 : (o + c) % 100 < 100 := by omega
 generalize (o + c) % 100 = x at *
 clear hr
 go_enter Tryz.func68, Tryz.ntmps68
 go_wp2_with fail
 generalize w.alloc (.cells #[.int .i64 s.1, .bool s.2.1, .int .i64 s.2.2] 35) = wa at *
 have hr2 : Rg wa.drew b f o c k now := hr1.later (Below.refl _ _).drew
 have h1 := hr1.cc
 have hc0 := hr1.ct x hx1
 have hc1 := hr1.cv x hx1
 have hc2 := hr1.cn x hx1
 have g0 := hr1.fz (x * 3) (by omega)
 have g1 := hr1.fz (x * 3 + 1) (by omega)
 have g2 := hr1.fz (x * 3 + 2) (by omega)
 obtain ⟨d0, d1, d2, _, _, _⟩ := id hx
 go_region_with (go_at_call 99; refine (hpl _ hr2 ho (by omega)).mono ?_; rintro e w' ⟨rfl, rfl⟩)
 all_goals
  have hr3 : Rg (set3 wa b (x * 3) s).drew b (fun j => if j = x then s else f j) o c k now := (hr1.put hx1 s).later (Below.refl _ _).drew
  have hg3 : w.grownBy (set3 wa b (x * 3) s).drew (some b) := ((grown_below hb1 (some b)).trans (grown3 wa b (x * 3) s)).trans (grown_below (Below.refl _ _).drew (some b))
  change Exit.then _ _ Exit.normal _ (set3 wa b (x * 3) s).drew
  generalize (set3 wa b (x * 3) s).drew = wb at *
  have i1 := hr3.cc
  have i2 := hr3.fz 301 (by omega)
  have e1 : wrap64 ((c : Int) + 1) = ((c + 1 : Nat) : Int) := by unfold wrap64; omega
  go_wp2
  go_end0
  exact ⟨rfl, hr3.setC (c + 1), hg3.trans (grown_set _ _ _ _)⟩
theorem push_any (b : Nat) (l : List Smp) (k now : Int) (s : Smp) (w : World) (h : Rl w b l k now) (hl : l.length < 100) :
  Calls Tryz.prog 68 #[.pointer (some ⟨b, 0, none⟩), sv s] w fun e w' => e = .returned (.tuple #[]) ∧ Rl w' b (l ++ [s]) k now ∧ w.grownBy w' (some b) := by
 obtain ⟨f, o, ho, _, hr, hf⟩ := h
 exact (push_rg b f o l.length k now s w hr ho hl).mono fun e w' ⟨h1, h2, h3⟩ => ⟨h1, Rl.push ho hl hf h2, h3⟩
theorem field_t (t : Int) (o : Bool) (n : Int) (w : World) : (Instr.field 35 (.agg #[.int .i64 t, .bool o, .int .i64 n]) 0).run Tryz.prog w = .ok (.int .i64 t) w := by kernel_rfl
theorem field_v (t : Int) (o : Bool) (n : Int) (w : World) : (Instr.field 35 (.agg #[.int .i64 t, .bool o, .int .i64 n]) 1).run Tryz.prog w = .ok (.agg #[.bool o, .int .i64 n]) w := by kernel_rfl
/-- How many a window in memory holds. -/
def cntW (w : World) (b : Nat) : Nat := match w.cell? ⟨b, 301, none⟩ with
 | some (.int _ i) => i.toNat
 | _ => 0
theorem Rg.cnt {w : World} {b : Nat} {f : Nat → Smp} {o c : Nat} {k now : Int} (h : Rg w b f o c k now) : cntW w b = c := by
 unfold cntW
 rw [h.cc]
 rfl
set_option maxHeartbeats 1000000 in
theorem forget_any (b : Nat) (l : List Smp) (k now : Int) (t : Int) (w : World) (h : Rl w b l k now) :
  Calls Tryz.prog 60 #[.pointer (some ⟨b, 0, none⟩), .int .i64 t] w fun e w' => e = .returned (.tuple #[]) ∧ Rl w' b (fg t l) k now ∧ w.grownBy w' (some b) := by
 have hfd := field_t
 go_enter Tryz.func60, Tryz.ntmps60
 go_wp2_with fail
 go_loopw [] (fun wr => ∃ r, Rl wr b r k now ∧ fg t r = fg t l ∧ w.grownBy wr (some b)) (fun wr => cntW wr b)
 case atStart => exact ⟨l, h, rfl, grown_below (Below.refl _ _) _⟩
 case round =>
  obtain ⟨r, hrl, hfg, hg⟩ := hrel
  obtain ⟨f, o, ho, hl, hr, hf⟩ := hrl
  have HG : Hid _ := hfg
  clear hfg
  have i1 := hr.cc
  cases r with
  | nil =>
   go_wp2
   go_end0
   exact ⟨rfl, by rw [← HG.out]; exact ⟨f, o, ho, hl, hr, hf⟩, hg⟩
  | cons s r =>
   have hm := hr.cnt
   have hs := at_mono (s :: r) b f o k now 0 wr hr ho hl hf (by simp)
   have e0 : (s :: r).getD 0 s0 = s := rfl
   rw [e0] at hs
   have hl' : r.length + 1 ≤ 100 := hl
   have HF : Hid (∀ i, i < r.length + 1 → f ((o + i) % 100) = (s :: r).getD i s0) := hf
   clear hf hl e0
   have hr' : Rg wr b f o (r.length + 1) k now := hr
   have hm' : cntW wr b = r.length + 1 := hm
   clear i1 hr hm
   generalize hmm : r.length = m at *
   have HM : Hid _ := hmm
   clear hmm
   have i1' : wr.cell? ⟨b, 301, none⟩ = some (.int .i64 ((m : Int) + 1)) := hr'.cc
   have h2 : decide ((0 : Int) < (m : Int) + 1) = true := decide_eq_true (by omega)
   by_cases ht : s.1 ≤ t
   ·
    have ht' : decide (s.1 ≤ t) = true := decide_eq_true ht
    have HN : Hid (fg t r = fg t l) := by rw [← HG.out]; show fg t r = if s.1 ≤ t then fg t r else s :: r; rw [if_pos ht]
    clear HG ht
    go_wp2_with fail
    refine hs.mono ?_
    rintro e w1 ⟨rfl, hb1⟩
    have hr1 := hr'.later hb1
    go_wp2_with fail
    have e1 : wrap64 ((m : Int) + 1 - 1) = (m : Int) := by unfold wrap64; omega
    have e2 : wrap64 (m : Int) = (m : Int) := by unfold wrap64; omega
    have hpl := place_any b f o (m + 1) k now 1 w1 hr1 ho (by omega)
    have hx : (o + 1) % 100 < 100 := by omega
    generalize hxx : (o + 1) % 100 = x at *
    have HX : Hid _ := hxx
    clear hxx
    refine hpl.mono ?_
    rintro e w2 ⟨rfl, rfl⟩
    have hr2 := hr1.setO x
    have hg2 := (hg.trans (grown_below hb1 (some b))).trans (grown_set w1 b 300 (.int .i64 x))
    have j0 := hr1.co
    have j1 : w1.cell? ⟨b, 301, none⟩ = some (.int .i64 ((m : Int) + 1)) := hr1.cc
    have j2 := hr1.fz 300 (by omega)
    have j3 := hr1.fz 301 (by omega)
    have j4 : (w1.setCell ⟨b, 300, none⟩ (.int .i64 x)).cell? ⟨b, 301, none⟩ = some (.int .i64 ((m : Int) + 1)) := hr2.cc
    go_wp2
    go_roundw
    case rel => exact ⟨r, Rl.pop (by rw [HM.out]; exact hl') (by rw [HM.out]; exact HF.out) (by rw [HX.out, HM.out]; exact hr2.setC m), HN.out, hg2.trans (grown_set _ _ _ _)⟩
    case measure =>
     rw [(hr2.setC m).cnt, hm']
     omega
   ·
    have ht' : decide (s.1 ≤ t) = false := decide_eq_false ht
    have HN : Hid (s :: r = fg t l) := by rw [← HG.out]; show s :: r = if s.1 ≤ t then fg t r else s :: r; rw [if_neg ht]
    clear HG ht
    go_wp2_with fail
    refine hs.mono ?_
    rintro e w1 ⟨rfl, hb1⟩
    go_wp2
    go_end0
    exact ⟨rfl, by rw [← HN.out]; exact ⟨f, o, ho, by show r.length + 1 ≤ 100; rw [HM.out]; exact hl', by show Rg _ b f o (r.length + 1) k now; rw [HM.out]; exact hr'.later hb1, by show ∀ i, i < r.length + 1 → _; rw [HM.out]; exact HF.out⟩, hg.trans (grown_below hb1 _)⟩
end Go.Proofs.YtjgckfcocmhnhaaGreatDoor.Rn
namespace Go.Proofs.YtjgckfcocmhnhaaGreatDoor.Rn
open Go.RowKit
theorem wI {x : Int} (h0 : -9223372036854775808 ≤ x) (h1 : x ≤ 9223372036854775807) : IntKind.i64.wrap x = x := by rw [IntKind.wrap_i64]; omega
theorem Rl.time {w : World} {b : Nat} {l : List Smp} {k now : Int} (h : Rl w b l k now) : w.cell? ⟨b, 303, none⟩ = some (.int .i64 now) := by
 obtain ⟨f, o, ho, hl, hr, hf⟩ := h
 exact hr.cw
theorem Rl.width {w : World} {b : Nat} {l : List Smp} {k now : Int} (h : Rl w b l k now) : w.cell? ⟨b, 302, none⟩ = some (.int .i64 k) := by
 obtain ⟨f, o, ho, hl, hr, hf⟩ := h
 exact hr.ck
set_option maxHeartbeats 1000000 in
theorem advance_any (b : Nat) (l : List Smp) (k now n : Int) (w : World) (h : Rl w b l k now) (hw : Wf l k now) :
  Calls Tryz.prog 27 #[.pointer (some ⟨b, 0, none⟩), .int .i64 n] w fun e w' => e = .returned (.tuple #[]) ∧ Rl w' b (fg (onw now n - k) l) k (onw now n) ∧ w.grownBy w' (some b) := by
 obtain ⟨f, o, ho, hl, hr, hf⟩ := h
 have H2 : Rl (w.setCell ⟨b, 303, none⟩ (.int .i64 (onw now n))) b l k (onw now n) := ⟨f, o, ho, hl, hr.setN _, hf⟩
 have h303 := hr.cw
 have h302 := hr.ck
 have f303 := hr.fz 303 (by omega)
 have k302 := (hr.setN (onw now n)).ck
 have hrg := onw_range n hw.n1
 have hk := hw.k1
 have e1 : wrap64 (onw now n - k) = onw now n - k := by unfold wrap64; omega
 have hfo := forget_any b l k (onw now n) (onw now n - k) _ (H2.later (Below.refl _ _).drew)
 have hg := grown_set w b 303 (.int .i64 (onw now n))
 have k303 : (w.setCell ⟨b, 303, none⟩ (.int .i64 (onw now n))).cell? ⟨b, 303, none⟩ = some (.int .i64 (onw now n)) := (hr.setN (onw now n)).cw
 have HO : Hid (onw now n = max now (min n 1000000)) := rfl
 unfold onw at H2 hrg e1 hfo hg k303 k302
 clear hr hf
 go_enter Tryz.func27, Tryz.ntmps27
 go_wp2_with fail
 generalize max now (min n 1000000) = nw at *
 generalize w.setCell ⟨b, 303, none⟩ (.int .i64 nw) = wa at *
 have k303d : wa.drew.cell? ⟨b, 303, none⟩ = some (.int .i64 nw) := k303
 have k302d : wa.drew.cell? ⟨b, 302, none⟩ = some (.int .i64 k) := k302
 have E1 : Hid (IntKind.i64.wrap (nw - k) = nw - k) := wI (by omega) (by omega)
 have hS0 : (fun W : World => W.cell? ⟨b, 303, none⟩ = some (Value.int .i64 nw) ∧ W.cell? ⟨b, 302, none⟩ = some (Value.int .i64 k)) _ := ⟨k303d, k302d⟩
 refine wp_region_noPanic ?_
 refine wp_region_held_drew (S := fun W : World => W.cell? ⟨b, 303, none⟩ = some (Value.int .i64 nw) ∧ W.cell? ⟨b, 302, none⟩ = some (Value.int .i64 k)) (by kernel_rfl) hS0 (fun _ => ?_)
 refine take_at 0 (some 14) (.pointer (some ⟨b, 0, none⟩)) rfl rfl (by kernel_rfl) (by kernel_rfl) (by kernel_rfl) (fun _ _ _ h => h) (by rfl) (fun W hSw => by obtain ⟨q1, q2⟩ := hSw; go_simp) hS0 ?_
 simp only [Act.put, List.setIfInBounds_toArray, List.set_cons_zero, List.set_cons_succ]
 refine take_at 1 (some 15) (.pointer (some ⟨b, 0, none⟩)) rfl rfl (by kernel_rfl) (by kernel_rfl) (by kernel_rfl) (fun _ _ _ h => h) (by rfl) (fun W hSw => by obtain ⟨q1, q2⟩ := hSw; go_simp) hS0 ?_
 simp only [Act.put, List.setIfInBounds_toArray, List.set_cons_zero, List.set_cons_succ]
 refine take_at 2 (some 16) (.pointer (some ⟨b, 0, none⟩)) rfl rfl (by kernel_rfl) (by kernel_rfl) (by kernel_rfl) (fun _ _ _ h => h) (by rfl) (fun W hSw => by obtain ⟨q1, q2⟩ := hSw; go_simp) hS0 ?_
 simp only [Act.put, List.setIfInBounds_toArray, List.set_cons_zero, List.set_cons_succ]
 refine take_at 3 (some 17) (.pointer (some ⟨b, 0, none⟩)) rfl rfl (by kernel_rfl) (by kernel_rfl) (by kernel_rfl) (fun _ _ _ h => h) (by rfl) (fun W hSw => by obtain ⟨q1, q2⟩ := hSw; go_simp) hS0 ?_
 simp only [Act.put, List.setIfInBounds_toArray, List.set_cons_zero, List.set_cons_succ]
 refine take_at 4 (some 18) (.pointer (some ⟨b, 0, none⟩)) rfl rfl (by kernel_rfl) (by kernel_rfl) (by kernel_rfl) (fun _ _ _ h => h) (by rfl) (fun W hSw => by obtain ⟨q1, q2⟩ := hSw; go_simp) hS0 ?_
 simp only [Act.put, List.setIfInBounds_toArray, List.set_cons_zero, List.set_cons_succ]
 refine take_at 5 (some 19) (.pointer (some ⟨b, 303, none⟩)) rfl rfl (by kernel_rfl) (by kernel_rfl) (by kernel_rfl) (fun _ _ _ h => h) (by rfl) (fun W hSw => by obtain ⟨q1, q2⟩ := hSw; go_simp) hS0 ?_
 simp only [Act.put, List.setIfInBounds_toArray, List.set_cons_zero, List.set_cons_succ]
 refine take_at 6 (some 20) (.int .i64 nw) rfl rfl (by kernel_rfl) (by kernel_rfl) (by kernel_rfl) (fun _ _ _ h => h) (by rfl) (fun W hSw => by obtain ⟨q1, q2⟩ := hSw; go_simp) hS0 ?_
 simp only [Act.put, List.setIfInBounds_toArray, List.set_cons_zero, List.set_cons_succ]
 refine take_at 7 (some 21) (.pointer (some ⟨b, 0, none⟩)) rfl rfl (by kernel_rfl) (by kernel_rfl) (by kernel_rfl) (fun _ _ _ h => h) (by rfl) (fun W hSw => by obtain ⟨q1, q2⟩ := hSw; go_simp) hS0 ?_
 simp only [Act.put, List.setIfInBounds_toArray, List.set_cons_zero, List.set_cons_succ]
 refine take_at 8 (some 22) (.pointer (some ⟨b, 0, none⟩)) rfl rfl (by kernel_rfl) (by kernel_rfl) (by kernel_rfl) (fun _ _ _ h => h) (by rfl) (fun W hSw => by obtain ⟨q1, q2⟩ := hSw; go_simp) hS0 ?_
 simp only [Act.put, List.setIfInBounds_toArray, List.set_cons_zero, List.set_cons_succ]
 refine take_at 9 (some 23) (.pointer (some ⟨b, 302, none⟩)) rfl rfl (by kernel_rfl) (by kernel_rfl) (by kernel_rfl) (fun _ _ _ h => h) (by rfl) (fun W hSw => by obtain ⟨q1, q2⟩ := hSw; go_simp) hS0 ?_
 simp only [Act.put, List.setIfInBounds_toArray, List.set_cons_zero, List.set_cons_succ]
 refine take_at 10 (some 24) (.int .i64 k) rfl rfl (by kernel_rfl) (by kernel_rfl) (by kernel_rfl) (fun _ _ _ h => h) (by rfl) (fun W hSw => by obtain ⟨q1, q2⟩ := hSw; go_simp) hS0 ?_
 simp only [Act.put, List.setIfInBounds_toArray, List.set_cons_zero, List.set_cons_succ]
 refine take_at 11 (some 25) (.int .i64 (nw - k)) rfl rfl (by kernel_rfl) (by kernel_rfl) (by kernel_rfl) (fun _ _ _ h => h) (by rfl) (fun W hSw => by go_simp; exact E1.out) hS0 ?_
 simp only [Act.put, List.setIfInBounds_toArray, List.set_cons_zero, List.set_cons_succ]
 refine wpAnyH_ready (rs := [12]) (by kernel_rfl) (by simp) ?_
 refine AllReadyH.cons rfl (fun K hK => ?_) AllReadyH.nil
 go_simp
 refine hfo.mono ?_
 rintro e w1 ⟨rfl, h1, h2⟩
 have hS1 : (fun W : World => W.cell? ⟨b, 303, none⟩ = some (Value.int .i64 nw) ∧ W.cell? ⟨b, 302, none⟩ = some (Value.int .i64 k)) w1 := ⟨h1.time, h1.width⟩
 refine hK.out _ _ hS1 (fun _ => ?_)
 clear hK K
 refine wpAnyH_done (by kernel_rfl) ?_ _
 refine NoPanic.normal ?_
 go_wp2
 go_end0
 exact ⟨rfl, by rw [HO.out]; exact h1, (hg.trans (grown_below (Below.refl _ _).drew (some b))).trans h2⟩
theorem BoxS.putV {w : World} {b : Nat} {s : Smp} (h : BoxS w b s) (o : Bool) (n : Int) : BoxS ((w.setCell ⟨b, 1, none⟩ (.bool o)).setCell ⟨b, 2, none⟩ (.int .i64 n)) b (s.1, o, n) := by
 obtain ⟨c0, c1, c2, f0, f1, f2⟩ := h
 refine ⟨(set_ne (by omega)).trans ((set_ne (by omega)).trans c0), (set_ne (by omega)).trans (set_same c1), set_same ((set_ne (by omega)).trans c2), ?_, ?_, ?_⟩
 ·
  simpa using f0
 ·
  simpa using f1
 ·
  simpa using f2
theorem Wf.room {l : List Smp} {k nw : Int} (h : Wf l k nw) {t : Int} (ho : ¬ (t < 0 ∨ nw < t ∨ t ≤ nw - k)) (h1 : ¬ (l ≠ [] ∧ t ≤ (lst l).1)) : l.length < 100 := by
 have e : adE l k nw (t, false, (0 : Int)).1 = 0 := by unfold adE; rw [if_neg ho, if_neg h1]
 have hw := (h.add (t, false, 0) ⟨by show _ ≤ (0 : Int); omega, by show (0 : Int) ≤ _; omega⟩).le
 unfold adL at hw
 rw [if_pos e, List.length_append, List.length_singleton] at hw
 omega
theorem adE_out {l : List Smp} {k nw t : Int} (h : t < 0 ∨ nw < t ∨ t ≤ nw - k) : adE l k nw t = 152 := by unfold adE; rw [if_pos h]
theorem adE_old {l : List Smp} {k nw t : Int} (h : ¬ (t < 0 ∨ nw < t ∨ t ≤ nw - k)) (h1 : l ≠ [] ∧ t ≤ (lst l).1) : adE l k nw t = 150 := by unfold adE; rw [if_neg h, if_pos h1]
theorem adE_ok {l : List Smp} {k nw t : Int} (h : ¬ (t < 0 ∨ nw < t ∨ t ≤ nw - k)) (h1 : ¬ (l ≠ [] ∧ t ≤ (lst l).1)) : adE l k nw t = 0 := by unfold adE; rw [if_neg h, if_neg h1]
set_option maxHeartbeats 2000000 in
theorem add_out (b : Nat) (l : List Smp) (k now : Int) (s : Smp) (w : World) (h : Rl w b l k now) (hw : Wf l k now) (ho : s.1 < 0 ∨ now < s.1 ∨ s.1 ≤ now - k) :
  Calls Tryz.prog 33 #[.pointer (some ⟨b, 0, none⟩), sv s] w fun e w' => e = .returned (.int .i64 152) ∧ Below w.heap.size w w' := by
 have hb1 := bal (Below.refl _ w) (.cells #[.int .i64 s.1, .bool s.2.1, .int .i64 s.2.2] 35)
 have h1 := (h.later hb1).time
 have h2 := (h.later hb1).width
 have hk := hw.k1
 have hn := hw.n1
 have e1 : wrap64 (now - k) = now - k := by unfold wrap64; omega
 clear h
 obtain ⟨t, o, n⟩ := s
 dsimp only at *
 by_cases c1 : t < 0
 ·
  have d1 : decide (t < 0) = true := decide_eq_true c1
  clear c1 ho
  go_enter Tryz.func33, Tryz.ntmps33
  go_wp2_with fail
  go_quiet (fail)
  go_wp2
  go_ret
  exact ⟨rfl, below_drewN hb1 _⟩
 ·
  have d1 : decide (t < 0) = false := decide_eq_false c1
  by_cases c2 : now < t
  ·
   have d2 : decide (now < t) = true := decide_eq_true c2
   clear c1 c2 ho
   go_enter Tryz.func33, Tryz.ntmps33
   go_wp2_with fail
   go_quiet (fail)
   go_wp2
   go_ret
   exact ⟨rfl, below_drewN hb1 _⟩
  ·
   have d2 : decide (now < t) = false := decide_eq_false c2
   have d3 : decide (t ≤ now - k) = true := decide_eq_true (by omega)
   clear c1 c2 ho
   go_enter Tryz.func33, Tryz.ntmps33
   go_wp2_with fail
   go_quiet (fail)
   go_wp2
   go_ret
   exact ⟨rfl, below_drewN hb1 _⟩
set_option maxHeartbeats 2000000 in
theorem add_in (b : Nat) (l : List Smp) (k now : Int) (s : Smp) (w : World) (h : Rl w b l k now) (hw : Wf l k now) (hr : R64 s.2.2) (ho : ¬ (s.1 < 0 ∨ now < s.1 ∨ s.1 ≤ now - k)) :
  Calls Tryz.prog 33 #[.pointer (some ⟨b, 0, none⟩), sv s] w fun e w' => e = .returned (.int .i64 (adE l k now s.1)) ∧ Rl w' b (adL l k now s) k now ∧ w.grownBy w' (some b) := by
 have hb1 := bal (Below.refl _ w) (.cells #[.int .i64 s.1, .bool s.2.1, .int .i64 s.2.2] 35)
 have hR := h.later hb1
 have hx := BoxS.new w s
 have h1 := hR.time
 have h2 := hR.width
 have hk := hw.k1
 have hn := hw.n1
 have e1 : wrap64 (now - k) = now - k := by unfold wrap64; omega
 have hbl := h.lt
 have HLen : Hid (¬ (l ≠ [] ∧ s.1 ≤ (lst l).1) → l.length < 100) := fun hc => hw.room ho hc
 have HA : Hid (adL l k now s = if adE l k now s.1 = 0 then l ++ [nrm s] else l) := rfl
 have HO : Hid (¬ (s.1 < 0 ∨ now < s.1 ∨ s.1 ≤ now - k)) := ho
 have d1 : decide (s.1 < 0) = false := decide_eq_false (by omega)
 have d2 : decide (now < s.1) = false := decide_eq_false (by omega)
 have d3 : decide (s.1 ≤ now - k) = false := decide_eq_false (by omega)
 clear h ho
 go_enter Tryz.func33, Tryz.ntmps33
 go_wp2_with fail
 go_quiet (fail)
 generalize hwq : (w.alloc (.cells #[.int .i64 s.1, .bool s.2.1, .int .i64 s.2.2] 35)).drewN _ = wa
 have hba : Below w.heap.size w wa := by rw [← hwq]; exact below_drewN hb1 _
 have hRa : Rl wa b l k now := by rw [← hwq]; exact hR.later (below_drewN (Below.refl _ _) _)
 have hxa : BoxS wa w.heap.size s := by rw [← hwq]; exact hx.later (below_drewN (Below.refl _ _) _)
 clear hwq hx hR h1 h2 hb1
 go_wp2_with fail
 refine (last_any b l k now _ hRa).mono ?_
 rintro e w1 ⟨rfl, hb1⟩
 obtain ⟨t, o, n⟩ := s
 dsimp only at *
 have hR1 := hRa.later hb1
 have hx1 := hxa.later hb1
 have hy := BoxS.new w1 (lst l)
 have hR2 := hR1.later (bal (Below.refl _ w1) (.cells #[.int .i64 (lst l).1, .bool (lst l).2.1, .int .i64 (lst l).2.2] 35))
 have hx2 := hx1.later (bal (Below.refl _ w1) (.cells #[.int .i64 (lst l).1, .bool (lst l).2.1, .int .i64 (lst l).2.2] 35))
 have hb2 := bal (hba.trans (hb1.mono hba.size)) (.cells #[.int .i64 (lst l).1, .bool (lst l).2.1, .int .i64 (lst l).2.2] 35)
 generalize hxl : lst l = x at *
 have HX : Hid (lst l = x) := hxl
 clear hxl
 obtain ⟨xt, xo, xn⟩ := x
 dsimp only at *
 obtain ⟨x0, x1, x2, g0, g1, g2⟩ := id hx2
 obtain ⟨y0, y1, y2, _, _, _⟩ := id hy
 clear hRa hxa hR1 hx1 hba hb1
 generalize hwz : w1.alloc (.cells #[.int .i64 xt, .bool xo, .int .i64 xn] 35) = w2 at *
 by_cases c4 : l = []
 ·
  have i1 : l.isEmpty = true := by rw [c4]; rfl
  have hlen : l.length < 100 := by rw [c4]; show 0 < 100; omega
  have HE : Hid (adE l k now t = 0) := adE_ok HO.out (fun e => e.1 c4)
  rw [i1]
  clear c4
  go_wp2_with fail
  refine (is_any o n _).mono ?_
  rintro e w3 ⟨rfl, hb3⟩
  have hx3 := hx2.later hb3
  have hR3 := hR2.later hb3
  have hb4 := Below.chain hb2 hb3
  cases hi : fIs o n with
  | true =>
   obtain ⟨n1, n2⟩ := is_cnt hi
   have HN : Hid (nrm (t, o, n) = (t, o, n)) := by show (t, ov (cnt o n), nn (cnt o n)) = _; rw [n1, n2]
   have hx4 := hx3
   have hR4 := hR3
   have hb5 := hb4
   go_wp2_with fail
   have hR5 : Rl w3.drew b l k now := hR4.later (Below.refl _ _).drew
   have hx5 : BoxS w3.drew w.heap.size (t, o, n) := hx4.later (Below.refl _ _).drew
   have hS0 : (fun W : World => W.cell? ⟨w.heap.size, 0, none⟩ = some (Value.int .i64 t) ∧ W.cell? ⟨w.heap.size, 1, none⟩ = some (Value.bool o) ∧ W.cell? ⟨w.heap.size, 2, none⟩ = some (Value.int .i64 n)) _ := ⟨hx5.c0, hx5.c1, hx5.c2⟩
   refine wp_region_noPanic ?_
   refine wp_region_held_drew (S := fun W : World => W.cell? ⟨w.heap.size, 0, none⟩ = some (Value.int .i64 t) ∧ W.cell? ⟨w.heap.size, 1, none⟩ = some (Value.bool o) ∧ W.cell? ⟨w.heap.size, 2, none⟩ = some (Value.int .i64 n)) (by kernel_rfl) hS0 (fun _ => ?_)
   refine take_at 0 (some 54) (.pointer (some ⟨b, 0, none⟩)) rfl rfl (by kernel_rfl) (by kernel_rfl) (by kernel_rfl) (fun _ _ _ h => h) (by rfl) (fun W hSw => by obtain ⟨q0, q1, q2⟩ := hSw; go_simp) hS0 ?_
   simp only [Act.put, List.setIfInBounds_toArray, List.set_cons_zero, List.set_cons_succ]
   refine take_at 1 (some 55) (.pointer (some ⟨b, 0, none⟩)) rfl rfl (by kernel_rfl) (by kernel_rfl) (by kernel_rfl) (fun _ _ _ h => h) (by rfl) (fun W hSw => by obtain ⟨q0, q1, q2⟩ := hSw; go_simp) hS0 ?_
   simp only [Act.put, List.setIfInBounds_toArray, List.set_cons_zero, List.set_cons_succ]
   refine take_at 2 (some 56) (.pointer (some ⟨b, 0, none⟩)) rfl rfl (by kernel_rfl) (by kernel_rfl) (by kernel_rfl) (fun _ _ _ h => h) (by rfl) (fun W hSw => by obtain ⟨q0, q1, q2⟩ := hSw; go_simp) hS0 ?_
   simp only [Act.put, List.setIfInBounds_toArray, List.set_cons_zero, List.set_cons_succ]
   refine take_at 3 (some 57) (.agg #[.int .i64 t, .bool o, .int .i64 n]) rfl rfl (by kernel_rfl) (by kernel_rfl) (by kernel_rfl) (fun _ _ _ h => h) (by rfl) (fun W hSw => by obtain ⟨q0, q1, q2⟩ := hSw; go_simp) hS0 ?_
   simp only [Act.put, List.setIfInBounds_toArray, List.set_cons_zero, List.set_cons_succ]
   refine wpAnyH_ready (rs := [4]) (by kernel_rfl) (by simp) ?_
   refine AllReadyH.cons rfl (fun K hK => ?_) AllReadyH.nil
   go_simp
   refine (push_any b l k now (t, o, n) _ hR5 hlen).mono ?_
   rintro e w6 ⟨rfl, hR6, hg6⟩
   have hx6 := hx5.kept hg6 (by simp; omega)
   have hS1 : (fun W : World => W.cell? ⟨w.heap.size, 0, none⟩ = some (Value.int .i64 t) ∧ W.cell? ⟨w.heap.size, 1, none⟩ = some (Value.bool o) ∧ W.cell? ⟨w.heap.size, 2, none⟩ = some (Value.int .i64 n)) w6 := ⟨hx6.c0, hx6.c1, hx6.c2⟩
   refine hK.out _ _ hS1 (fun _ => ?_)
   clear hK K
   refine wpAnyH_done (by kernel_rfl) ?_ _
   refine NoPanic.normal ?_
   go_wp2
   go_ret
   exact ⟨by rw [HE.out]; rfl, by rw [HA.out, HE.out, if_pos rfl, HN.out]; exact hR6, (grown_below (hb5.trans (Below.refl _ _).drew) (some b)).trans hg6⟩
  | false =>
   have HN : Hid (nrm (t, o, n) = (t, true, 0)) := by show (t, ov (cnt o n), nn (cnt o n)) = _; rw [isnt_cnt hr.1 hi]; rfl
   obtain ⟨c0, c1, c2, f0, f1, f2⟩ := id hx3
   have hx4 : BoxS ((w3.setCell ⟨w.heap.size, 1, none⟩ (.bool true)).setCell ⟨w.heap.size, 2, none⟩ (.int .i64 0)) w.heap.size (t, true, 0) := hx3.putV true 0
   have hR4 : Rl ((w3.setCell ⟨w.heap.size, 1, none⟩ (.bool true)).setCell ⟨w.heap.size, 2, none⟩ (.int .i64 0)) b l k now := hR3.kept ((grown_set _ _ _ _).trans (grown_set _ _ _ _)) (by simp; omega)
   have hb5 : Below w.heap.size w ((w3.setCell ⟨w.heap.size, 1, none⟩ (.bool true)).setCell ⟨w.heap.size, 2, none⟩ (.int .i64 0)) := (hb4.setCell (p := ⟨w.heap.size, 1, none⟩) (Nat.le_refl _) _).setCell (p := ⟨w.heap.size, 2, none⟩) (Nat.le_refl _) _
   go_wp2_with fail
   generalize (w3.setCell ⟨w.heap.size, 1, none⟩ (.bool true)).setCell ⟨w.heap.size, 2, none⟩ (.int .i64 0) = w4 at *
   have hR5 : Rl w4.drew b l k now := hR4.later (Below.refl _ _).drew
   have hx5 : BoxS w4.drew w.heap.size (t, true, 0) := hx4.later (Below.refl _ _).drew
   have hS0 : (fun W : World => W.cell? ⟨w.heap.size, 0, none⟩ = some (Value.int .i64 t) ∧ W.cell? ⟨w.heap.size, 1, none⟩ = some (Value.bool true) ∧ W.cell? ⟨w.heap.size, 2, none⟩ = some (Value.int .i64 0)) _ := ⟨hx5.c0, hx5.c1, hx5.c2⟩
   refine wp_region_noPanic ?_
   refine wp_region_held_drew (S := fun W : World => W.cell? ⟨w.heap.size, 0, none⟩ = some (Value.int .i64 t) ∧ W.cell? ⟨w.heap.size, 1, none⟩ = some (Value.bool true) ∧ W.cell? ⟨w.heap.size, 2, none⟩ = some (Value.int .i64 0)) (by kernel_rfl) hS0 (fun _ => ?_)
   refine take_at 0 (some 54) (.pointer (some ⟨b, 0, none⟩)) rfl rfl (by kernel_rfl) (by kernel_rfl) (by kernel_rfl) (fun _ _ _ h => h) (by rfl) (fun W hSw => by obtain ⟨q0, q1, q2⟩ := hSw; go_simp) hS0 ?_
   simp only [Act.put, List.setIfInBounds_toArray, List.set_cons_zero, List.set_cons_succ]
   refine take_at 1 (some 55) (.pointer (some ⟨b, 0, none⟩)) rfl rfl (by kernel_rfl) (by kernel_rfl) (by kernel_rfl) (fun _ _ _ h => h) (by rfl) (fun W hSw => by obtain ⟨q0, q1, q2⟩ := hSw; go_simp) hS0 ?_
   simp only [Act.put, List.setIfInBounds_toArray, List.set_cons_zero, List.set_cons_succ]
   refine take_at 2 (some 56) (.pointer (some ⟨b, 0, none⟩)) rfl rfl (by kernel_rfl) (by kernel_rfl) (by kernel_rfl) (fun _ _ _ h => h) (by rfl) (fun W hSw => by obtain ⟨q0, q1, q2⟩ := hSw; go_simp) hS0 ?_
   simp only [Act.put, List.setIfInBounds_toArray, List.set_cons_zero, List.set_cons_succ]
   refine take_at 3 (some 57) (.agg #[.int .i64 t, .bool true, .int .i64 0]) rfl rfl (by kernel_rfl) (by kernel_rfl) (by kernel_rfl) (fun _ _ _ h => h) (by rfl) (fun W hSw => by obtain ⟨q0, q1, q2⟩ := hSw; go_simp) hS0 ?_
   simp only [Act.put, List.setIfInBounds_toArray, List.set_cons_zero, List.set_cons_succ]
   refine wpAnyH_ready (rs := [4]) (by kernel_rfl) (by simp) ?_
   refine AllReadyH.cons rfl (fun K hK => ?_) AllReadyH.nil
   go_simp
   refine (push_any b l k now (t, true, 0) _ hR5 hlen).mono ?_
   rintro e w6 ⟨rfl, hR6, hg6⟩
   have hx6 := hx5.kept hg6 (by simp; omega)
   have hS1 : (fun W : World => W.cell? ⟨w.heap.size, 0, none⟩ = some (Value.int .i64 t) ∧ W.cell? ⟨w.heap.size, 1, none⟩ = some (Value.bool true) ∧ W.cell? ⟨w.heap.size, 2, none⟩ = some (Value.int .i64 0)) w6 := ⟨hx6.c0, hx6.c1, hx6.c2⟩
   refine hK.out _ _ hS1 (fun _ => ?_)
   clear hK K
   refine wpAnyH_done (by kernel_rfl) ?_ _
   refine NoPanic.normal ?_
   go_wp2
   go_ret
   exact ⟨by rw [HE.out]; rfl, by rw [HA.out, HE.out, if_pos rfl, HN.out]; exact hR6, (grown_below (hb5.trans (Below.refl _ _).drew) (some b)).trans hg6⟩
 ·
  have i1 : l.isEmpty = false := by cases l <;> first | rfl | exact absurd rfl c4
  rw [i1]
  by_cases c5 : t ≤ xt
  ·
   have HE : Hid (adE l k now t = 150) := adE_old HO.out ⟨c4, by rw [HX.out]; exact c5⟩
   have d5 : decide (t ≤ xt) = true := decide_eq_true c5
   clear c4 c5
   go_wp2
   go_ret
   exact ⟨by rw [HE.out]; rfl, by rw [HA.out, HE.out, if_neg (by decide)]; exact hR2, grown_below hb2 (some b)⟩
  ·
   have HE : Hid (adE l k now t = 0) := adE_ok HO.out (fun e => c5 (by have := e.2; rw [HX.out] at this; exact this))
   have hlen : l.length < 100 := HLen.out (fun e => c5 e.2)
   have d5 : decide (t ≤ xt) = false := decide_eq_false c5
   clear c4 c5
   go_wp2_with fail
   refine (is_any o n _).mono ?_
   rintro e w3 ⟨rfl, hb3⟩
   have hx3 := hx2.later hb3
   have hR3 := hR2.later hb3
   have hb4 := Below.chain hb2 hb3
   cases hi : fIs o n with
   | true =>
    obtain ⟨n1, n2⟩ := is_cnt hi
    have HN : Hid (nrm (t, o, n) = (t, o, n)) := by show (t, ov (cnt o n), nn (cnt o n)) = _; rw [n1, n2]
    have hx4 := hx3
    have hR4 := hR3
    have hb5 := hb4
    go_wp2_with fail
    have hR5 : Rl w3.drew b l k now := hR4.later (Below.refl _ _).drew
    have hx5 : BoxS w3.drew w.heap.size (t, o, n) := hx4.later (Below.refl _ _).drew
    have hS0 : (fun W : World => W.cell? ⟨w.heap.size, 0, none⟩ = some (Value.int .i64 t) ∧ W.cell? ⟨w.heap.size, 1, none⟩ = some (Value.bool o) ∧ W.cell? ⟨w.heap.size, 2, none⟩ = some (Value.int .i64 n)) _ := ⟨hx5.c0, hx5.c1, hx5.c2⟩
    refine wp_region_noPanic ?_
    refine wp_region_held_drew (S := fun W : World => W.cell? ⟨w.heap.size, 0, none⟩ = some (Value.int .i64 t) ∧ W.cell? ⟨w.heap.size, 1, none⟩ = some (Value.bool o) ∧ W.cell? ⟨w.heap.size, 2, none⟩ = some (Value.int .i64 n)) (by kernel_rfl) hS0 (fun _ => ?_)
    refine take_at 0 (some 54) (.pointer (some ⟨b, 0, none⟩)) rfl rfl (by kernel_rfl) (by kernel_rfl) (by kernel_rfl) (fun _ _ _ h => h) (by rfl) (fun W hSw => by obtain ⟨q0, q1, q2⟩ := hSw; go_simp) hS0 ?_
    simp only [Act.put, List.setIfInBounds_toArray, List.set_cons_zero, List.set_cons_succ]
    refine take_at 1 (some 55) (.pointer (some ⟨b, 0, none⟩)) rfl rfl (by kernel_rfl) (by kernel_rfl) (by kernel_rfl) (fun _ _ _ h => h) (by rfl) (fun W hSw => by obtain ⟨q0, q1, q2⟩ := hSw; go_simp) hS0 ?_
    simp only [Act.put, List.setIfInBounds_toArray, List.set_cons_zero, List.set_cons_succ]
    refine take_at 2 (some 56) (.pointer (some ⟨b, 0, none⟩)) rfl rfl (by kernel_rfl) (by kernel_rfl) (by kernel_rfl) (fun _ _ _ h => h) (by rfl) (fun W hSw => by obtain ⟨q0, q1, q2⟩ := hSw; go_simp) hS0 ?_
    simp only [Act.put, List.setIfInBounds_toArray, List.set_cons_zero, List.set_cons_succ]
    refine take_at 3 (some 57) (.agg #[.int .i64 t, .bool o, .int .i64 n]) rfl rfl (by kernel_rfl) (by kernel_rfl) (by kernel_rfl) (fun _ _ _ h => h) (by rfl) (fun W hSw => by obtain ⟨q0, q1, q2⟩ := hSw; go_simp) hS0 ?_
    simp only [Act.put, List.setIfInBounds_toArray, List.set_cons_zero, List.set_cons_succ]
    refine wpAnyH_ready (rs := [4]) (by kernel_rfl) (by simp) ?_
    refine AllReadyH.cons rfl (fun K hK => ?_) AllReadyH.nil
    go_simp
    refine (push_any b l k now (t, o, n) _ hR5 hlen).mono ?_
    rintro e w6 ⟨rfl, hR6, hg6⟩
    have hx6 := hx5.kept hg6 (by simp; omega)
    have hS1 : (fun W : World => W.cell? ⟨w.heap.size, 0, none⟩ = some (Value.int .i64 t) ∧ W.cell? ⟨w.heap.size, 1, none⟩ = some (Value.bool o) ∧ W.cell? ⟨w.heap.size, 2, none⟩ = some (Value.int .i64 n)) w6 := ⟨hx6.c0, hx6.c1, hx6.c2⟩
    refine hK.out _ _ hS1 (fun _ => ?_)
    clear hK K
    refine wpAnyH_done (by kernel_rfl) ?_ _
    refine NoPanic.normal ?_
    go_wp2
    go_ret
    exact ⟨by rw [HE.out]; rfl, by rw [HA.out, HE.out, if_pos rfl, HN.out]; exact hR6, (grown_below (hb5.trans (Below.refl _ _).drew) (some b)).trans hg6⟩
   | false =>
    have HN : Hid (nrm (t, o, n) = (t, true, 0)) := by show (t, ov (cnt o n), nn (cnt o n)) = _; rw [isnt_cnt hr.1 hi]; rfl
    obtain ⟨c0, c1, c2, f0, f1, f2⟩ := id hx3
    have hx4 : BoxS ((w3.setCell ⟨w.heap.size, 1, none⟩ (.bool true)).setCell ⟨w.heap.size, 2, none⟩ (.int .i64 0)) w.heap.size (t, true, 0) := hx3.putV true 0
    have hR4 : Rl ((w3.setCell ⟨w.heap.size, 1, none⟩ (.bool true)).setCell ⟨w.heap.size, 2, none⟩ (.int .i64 0)) b l k now := hR3.kept ((grown_set _ _ _ _).trans (grown_set _ _ _ _)) (by simp; omega)
    have hb5 : Below w.heap.size w ((w3.setCell ⟨w.heap.size, 1, none⟩ (.bool true)).setCell ⟨w.heap.size, 2, none⟩ (.int .i64 0)) := (hb4.setCell (p := ⟨w.heap.size, 1, none⟩) (Nat.le_refl _) _).setCell (p := ⟨w.heap.size, 2, none⟩) (Nat.le_refl _) _
    go_wp2_with fail
    generalize (w3.setCell ⟨w.heap.size, 1, none⟩ (.bool true)).setCell ⟨w.heap.size, 2, none⟩ (.int .i64 0) = w4 at *
    have hR5 : Rl w4.drew b l k now := hR4.later (Below.refl _ _).drew
    have hx5 : BoxS w4.drew w.heap.size (t, true, 0) := hx4.later (Below.refl _ _).drew
    have hS0 : (fun W : World => W.cell? ⟨w.heap.size, 0, none⟩ = some (Value.int .i64 t) ∧ W.cell? ⟨w.heap.size, 1, none⟩ = some (Value.bool true) ∧ W.cell? ⟨w.heap.size, 2, none⟩ = some (Value.int .i64 0)) _ := ⟨hx5.c0, hx5.c1, hx5.c2⟩
    refine wp_region_noPanic ?_
    refine wp_region_held_drew (S := fun W : World => W.cell? ⟨w.heap.size, 0, none⟩ = some (Value.int .i64 t) ∧ W.cell? ⟨w.heap.size, 1, none⟩ = some (Value.bool true) ∧ W.cell? ⟨w.heap.size, 2, none⟩ = some (Value.int .i64 0)) (by kernel_rfl) hS0 (fun _ => ?_)
    refine take_at 0 (some 54) (.pointer (some ⟨b, 0, none⟩)) rfl rfl (by kernel_rfl) (by kernel_rfl) (by kernel_rfl) (fun _ _ _ h => h) (by rfl) (fun W hSw => by obtain ⟨q0, q1, q2⟩ := hSw; go_simp) hS0 ?_
    simp only [Act.put, List.setIfInBounds_toArray, List.set_cons_zero, List.set_cons_succ]
    refine take_at 1 (some 55) (.pointer (some ⟨b, 0, none⟩)) rfl rfl (by kernel_rfl) (by kernel_rfl) (by kernel_rfl) (fun _ _ _ h => h) (by rfl) (fun W hSw => by obtain ⟨q0, q1, q2⟩ := hSw; go_simp) hS0 ?_
    simp only [Act.put, List.setIfInBounds_toArray, List.set_cons_zero, List.set_cons_succ]
    refine take_at 2 (some 56) (.pointer (some ⟨b, 0, none⟩)) rfl rfl (by kernel_rfl) (by kernel_rfl) (by kernel_rfl) (fun _ _ _ h => h) (by rfl) (fun W hSw => by obtain ⟨q0, q1, q2⟩ := hSw; go_simp) hS0 ?_
    simp only [Act.put, List.setIfInBounds_toArray, List.set_cons_zero, List.set_cons_succ]
    refine take_at 3 (some 57) (.agg #[.int .i64 t, .bool true, .int .i64 0]) rfl rfl (by kernel_rfl) (by kernel_rfl) (by kernel_rfl) (fun _ _ _ h => h) (by rfl) (fun W hSw => by obtain ⟨q0, q1, q2⟩ := hSw; go_simp) hS0 ?_
    simp only [Act.put, List.setIfInBounds_toArray, List.set_cons_zero, List.set_cons_succ]
    refine wpAnyH_ready (rs := [4]) (by kernel_rfl) (by simp) ?_
    refine AllReadyH.cons rfl (fun K hK => ?_) AllReadyH.nil
    go_simp
    refine (push_any b l k now (t, true, 0) _ hR5 hlen).mono ?_
    rintro e w6 ⟨rfl, hR6, hg6⟩
    have hx6 := hx5.kept hg6 (by simp; omega)
    have hS1 : (fun W : World => W.cell? ⟨w.heap.size, 0, none⟩ = some (Value.int .i64 t) ∧ W.cell? ⟨w.heap.size, 1, none⟩ = some (Value.bool true) ∧ W.cell? ⟨w.heap.size, 2, none⟩ = some (Value.int .i64 0)) w6 := ⟨hx6.c0, hx6.c1, hx6.c2⟩
    refine hK.out _ _ hS1 (fun _ => ?_)
    clear hK K
    refine wpAnyH_done (by kernel_rfl) ?_ _
    refine NoPanic.normal ?_
    go_wp2
    go_ret
    exact ⟨by rw [HE.out]; rfl, by rw [HA.out, HE.out, if_pos rfl, HN.out]; exact hR6, (grown_below (hb5.trans (Below.refl _ _).drew) (some b)).trans hg6⟩
theorem add_any (b : Nat) (l : List Smp) (k now : Int) (s : Smp) (w : World) (h : Rl w b l k now) (hw : Wf l k now) (hr : R64 s.2.2) :
  Calls Tryz.prog 33 #[.pointer (some ⟨b, 0, none⟩), sv s] w fun e w' => e = .returned (.int .i64 (adE l k now s.1)) ∧ Rl w' b (adL l k now s) k now ∧ w.grownBy w' (some b) := by
 by_cases ho : s.1 < 0 ∨ now < s.1 ∨ s.1 ≤ now - k
 ·
  have e : adE l k now s.1 = 152 := adE_out ho
  rw [show adL l k now s = l by unfold adL; rw [e, if_neg (by decide)], e]
  exact (add_out b l k now s w h hw ho).mono fun e w' ⟨h1, h2⟩ => ⟨h1, h.later h2, grown_below h2 _⟩
 ·
  exact add_in b l k now s w h hw hr ho
end Go.Proofs.YtjgckfcocmhnhaaGreatDoor.Rn
namespace Go.Proofs.YtjgckfcocmhnhaaGreatDoor.Rn
open Go.RowKit
def three (s : Smp) : List Value := [.int .i64 s.1, .bool s.2.1, .int .i64 s.2.2]
def cellsS (l : List Smp) : List Value := l.flatMap three
theorem cellsS_cons (s : Smp) (l : List Smp) : cellsS (s :: l) = .int .i64 s.1 :: .bool s.2.1 :: .int .i64 s.2.2 :: cellsS l := rfl
theorem cellsS_append (l m : List Smp) : cellsS (l ++ m) = cellsS l ++ cellsS m := by simp [cellsS]
theorem cellsS_one (l : List Smp) : ∀ u ∈ cellsS l, u.oneCell' = true := by
 intro u hu
 obtain ⟨x, _, hx⟩ := List.mem_flatMap.1 hu
 unfold three at hx
 simp only [List.mem_cons, List.not_mem_nil, or_false] at hx
 rcases hx with rfl | rfl | rfl <;> rfl
theorem cellsS_get {l : List Smp} {j : Nat} (h : j < l.length) : (cellsS l)[j * 3]? = some (.int .i64 (l.getD j s0).1) ∧ (cellsS l)[j * 3 + 1]? = some (.bool (l.getD j s0).2.1) ∧ (cellsS l)[j * 3 + 2]? = some (.int .i64 (l.getD j s0).2.2) := by
 induction l generalizing j with
 | nil => simp at h
 | cons p l ih =>
  rw [cellsS_cons]
  cases j with
  | zero => simp
  | succ j =>
   have := ih (j := j) (by simpa using h)
   rw [show (j + 1) * 3 = j * 3 + 3 by omega]
   simpa using this
/-- A slice of samples that reads as l. -/
def Ms (w : World) (ao : Option Addr) (n : Nat) (l : List Smp) : Prop :=
 l.length = n ∧ (0 < n → ∃ b off, ao = some ⟨b, off, none⟩ ∧ ∀ j, j < n → w.cell? ⟨b, off + j * 3, none⟩ = some (.int .i64 (l.getD j s0).1) ∧ w.cell? ⟨b, off + j * 3 + 1, none⟩ = some (.bool (l.getD j s0).2.1) ∧ w.cell? ⟨b, off + j * 3 + 2, none⟩ = some (.int .i64 (l.getD j s0).2.2))
theorem Ms.kept {w w' : World} {ao : Option Addr} {n : Nat} {l : List Smp} (h : Ms w ao n l) {row : Option Nat} (hg : w.grownBy w' row) (hne : ∀ a, ao = some a → 0 < n → some a.block ≠ row) : Ms w' ao n l := by
 refine ⟨h.1, fun hp => ?_⟩
 obtain ⟨b, off, e, hc⟩ := h.2 hp
 have hn := hne _ e hp
 exact ⟨b, off, e, fun j hj => ⟨grown_cell hg (hc j hj).1 hn, grown_cell hg (hc j hj).2.1 hn, grown_cell hg (hc j hj).2.2 hn⟩⟩
theorem Ms.later {w w' : World} {ao : Option Addr} {n : Nat} {l : List Smp} (h : Ms w ao n l) (hb : Below w.heap.size w w') : Ms w' ao n l := h.kept (grown_below hb none) (by simp)
theorem Ms.nil (w : World) (ao : Option Addr) : Ms w ao 0 [] := ⟨rfl, fun h => by omega⟩
theorem infoS : (Tryz.prog.info? 35).map (fun i => (i.zero, i.size, i.bytes)) = some (some (sv s0), 3, 24) := by kernel_rfl
theorem infoS_parts : ∃ i, Tryz.prog.info? 35 = some i ∧ i.zero = some (sv s0) ∧ i.size = 3 ∧ i.bytes = 24 := by
 have h := infoS
 cases hi : Tryz.prog.info? 35 with
 | none => rw [hi] at h; cases h
 | some i =>
  rw [hi] at h
  simp only [Option.map_some, Option.some.injEq, Prod.mk.injEq] at h
  exact ⟨i, rfl, h.1, h.2.1, h.2.2⟩
theorem zeroS : (sv s0).cells.size = 3 := by kernel_rfl
/-- New memory of its own that holds these samples. -/
def Own (w : World) (base : Nat) (v : Value) (l : List Smp) : Prop := w.ownsRow base 35 3 v l.length (cellsS l)
theorem Own.slice {w : World} {base : Nat} {v : Value} {l : List Smp} (h : Own w base v l) : ∃ ao cap, v = .slice ao l.length cap ∧ Ms w ao l.length l := by
 rcases h.2 with ⟨rfl, h0⟩ | ⟨g, cap, cur, rfl, hb, hg, hn, _, hs, ht⟩
 ·
  have : l = [] := List.length_eq_zero_iff.1 h0
  subst this
  exact ⟨none, 0, rfl, Ms.nil _ _⟩
 ·
  refine ⟨_, cap, rfl, ⟨rfl, fun _ => ⟨g, 0, rfl, fun j hj => ?_⟩⟩⟩
  have e : ∀ i, i < l.length * 3 → w.cell? ⟨g, 0 + i, none⟩ = (cellsS l)[i]? := fun i hi => by
   rw [cell_of_row _ _ _ _ _ _ hg, ← ht, List.getElem?_take_of_lt hi, Nat.zero_add]
   exact (Array.getElem?_toList).symm
  obtain ⟨g1, g2, g3⟩ := cellsS_get hj
  exact ⟨(e _ (by omega)).trans g1, (e (j * 3 + 1) (by omega)).trans g2, (e (j * 3 + 2) (by omega)).trans g3⟩
theorem Own.later {w w' : World} {base : Nat} {v : Value} {l : List Smp} (h : Own w base v l) (hb : Below w.heap.size w w') : Own w' base v l := by
 refine ⟨h.1, ?_⟩
 rcases h.2 with h0 | ⟨g, cap, cur, hv, hg0, hg, hn, hm, hs, ht⟩
 ·
  exact Or.inl h0
 ·
  have hlt : g < w.heap.size := by
   by_cases hlt : g < w.heap.size
   ·
    exact hlt
   ·
    rw [Array.getElem?_eq_none (by omega)] at hg; cases hg
  exact Or.inr ⟨g, cap, cur, hv, hg0, (hb.block g hlt).trans hg, hn, hm, hs, ht⟩
theorem BoxS.cells {w : World} {b : Nat} {s : Smp} (h : BoxS w b s) : ∀ i u, (cellsS [s])[i]? = some u → w.cell? ((⟨b, 0, none⟩ : Addr).add i) = some u := by
 intro i u hu
 rw [Addr.add_lit, Nat.zero_add]
 match i, hu with
 | 0, hu => rw [h.c0]; exact hu
 | 1, hu => rw [h.c1]; exact hu
 | 2, hu => rw [h.c2]; exact hu
 | i + 3, hu => simp [cellsS, three] at hu
theorem Own.snoc {w : World} {base : Nat} {v : Value} {l : List Smp} {s : Smp} (h : w.ownsRow base 35 3 v (l.length + 1) (cellsS l ++ cellsS [s])) : Own w base v (l ++ [s]) := by
 unfold Own
 rw [cellsS_append, List.length_append]
 exact h
/-! ### Numbers -/
def two (x : Bool × Int) : List Value := [.bool x.1, .int .i64 x.2]
def cellsN (l : List (Bool × Int)) : List Value := l.flatMap two
theorem cellsN_cons (s : Bool × Int) (l : List (Bool × Int)) : cellsN (s :: l) = .bool s.1 :: .int .i64 s.2 :: cellsN l := rfl
theorem cellsN_append (l m : List (Bool × Int)) : cellsN (l ++ m) = cellsN l ++ cellsN m := by simp [cellsN]
theorem cellsN_one (l : List (Bool × Int)) : ∀ u ∈ cellsN l, u.oneCell' = true := by
 intro u hu
 obtain ⟨x, _, hx⟩ := List.mem_flatMap.1 hu
 unfold two at hx
 simp only [List.mem_cons, List.not_mem_nil, or_false] at hx
 rcases hx with rfl | rfl <;> rfl
theorem cellsN_get {l : List (Bool × Int)} {j : Nat} (h : j < l.length) : (cellsN l)[j * 2]? = some (.bool (l.getD j (false, 0)).1) ∧ (cellsN l)[j * 2 + 1]? = some (.int .i64 (l.getD j (false, 0)).2) := by
 induction l generalizing j with
 | nil => simp at h
 | cons p l ih =>
  rw [cellsN_cons]
  cases j with
  | zero => simp
  | succ j =>
   have := ih (j := j) (by simpa using h)
   rw [show (j + 1) * 2 = j * 2 + 2 by omega]
   simpa using this
theorem infoN : (Tryz.prog.info? 33).map (fun i => (i.zero, i.size, i.bytes)) = some (some (.agg #[.bool false, .int .i64 0]), 2, 16) := by kernel_rfl
theorem infoN_parts : ∃ i, Tryz.prog.info? 33 = some i ∧ i.zero = some (.agg #[.bool false, .int .i64 0]) ∧ i.size = 2 ∧ i.bytes = 16 := by
 have h := infoN
 cases hi : Tryz.prog.info? 33 with
 | none => rw [hi] at h; cases h
 | some i =>
  rw [hi] at h
  simp only [Option.map_some, Option.some.injEq, Prod.mk.injEq] at h
  exact ⟨i, rfl, h.1, h.2.1, h.2.2⟩
theorem zeroN : (Value.agg #[.bool false, .int .i64 0]).cells.size = 2 := by kernel_rfl
def OwnN (w : World) (base : Nat) (v : Value) (l : List (Bool × Int)) : Prop := w.ownsRow base 33 2 v l.length (cellsN l)
theorem OwnN.slice {w : World} {base : Nat} {v : Value} {l : List (Bool × Int)} (h : OwnN w base v l) : ∃ ao cap, v = .slice ao l.length cap ∧ Ns w ao l.length l := by
 rcases h.2 with ⟨rfl, h0⟩ | ⟨g, cap, cur, rfl, hb, hg, hn, _, hs, ht⟩
 ·
  have : l = [] := List.length_eq_zero_iff.1 h0
  subst this
  exact ⟨none, 0, rfl, Ns.nil _⟩
 ·
  refine ⟨_, cap, rfl, ⟨rfl, fun _ => ⟨g, 0, rfl, fun j hj => ?_⟩⟩⟩
  have e : ∀ i, i < l.length * 2 → w.cell? ⟨g, 0 + i, none⟩ = (cellsN l)[i]? := fun i hi => by
   rw [cell_of_row _ _ _ _ _ _ hg, ← ht, List.getElem?_take_of_lt hi, Nat.zero_add]
   exact (Array.getElem?_toList).symm
  obtain ⟨g1, g2⟩ := cellsN_get hj
  exact ⟨(e _ (by omega)).trans g1, (e (j * 2 + 1) (by omega)).trans g2⟩
theorem OwnN.later {w w' : World} {base : Nat} {v : Value} {l : List (Bool × Int)} (h : OwnN w base v l) (hb : Below w.heap.size w w') : OwnN w' base v l := by
 refine ⟨h.1, ?_⟩
 rcases h.2 with h0 | ⟨g, cap, cur, hv, hg0, hg, hn, hm, hs, ht⟩
 ·
  exact Or.inl h0
 ·
  have hlt : g < w.heap.size := by
   by_cases hlt : g < w.heap.size
   ·
    exact hlt
   ·
    rw [Array.getElem?_eq_none (by omega)] at hg; cases hg
  exact Or.inr ⟨g, cap, cur, hv, hg0, (hb.block g hlt).trans hg, hn, hm, hs, ht⟩
theorem Box.cellsN {w : World} {b : Nat} {x : Bool × Int} (h : Box w b x.1 x.2) : ∀ i u, (YtjgckfcocmhnhaaGreatDoor.Rn.cellsN [x])[i]? = some u → w.cell? ((⟨b, 0, none⟩ : Addr).add i) = some u := by
 intro i u hu
 rw [Addr.add_lit, Nat.zero_add]
 match i, hu with
 | 0, hu => rw [h.c0]; exact hu
 | 1, hu => rw [h.c1]; exact hu
 | i + 2, hu => simp [YtjgckfcocmhnhaaGreatDoor.Rn.cellsN, two] at hu
theorem OwnN.snoc {w : World} {base : Nat} {v : Value} {l : List (Bool × Int)} {s : Bool × Int} (h : w.ownsRow base 33 2 v (l.length + 1) (cellsN l ++ cellsN [s])) : OwnN w base v (l ++ [s]) := by
 unfold OwnN
 rw [cellsN_append, List.length_append]
 exact h
end Go.Proofs.YtjgckfcocmhnhaaGreatDoor.Rn
namespace Go.Proofs.YtjgckfcocmhnhaaGreatDoor.Rn
open Go.RowKit
theorem take_snocS {l : List Smp} {j : Nat} (h : j < l.length) : l.take (j + 1) = l.take j ++ [l.getD j s0] := by
 rw [List.take_add_one, List.getD_eq_getElem?_getD, List.getElem?_eq_getElem h]
 rfl
set_option maxHeartbeats 2000000 in
theorem all_any (b : Nat) (l : List Smp) (k now : Int) (w : World) (h : Rl w b l k now) :
  Calls Tryz.prog 51 #[.pointer (some ⟨b, 0, none⟩)] w fun e w' => ∃ v, e = .returned v ∧ Own w' w.heap.size v l ∧ Below w.heap.size w w' := by
 obtain ⟨i0, hi, hz0, hz1, hz2⟩ := infoS_parts
 have hlen : l.length ≤ 100 := by
  obtain ⟨f, o, ho, hl, hr, hf⟩ := h
  exact hl
 have HA : Hid (∀ j, l.length ≤ j → l.take j = l) := fun j hj => List.take_of_length_le hj
 have hcc : ∀ W, Rl W b l k now → W.cell? ⟨b, 301, none⟩ = some (.int .i64 l.length) := by
  intro W hW
  obtain ⟨f, o, ho, hl, hr, hf⟩ := hW
  exact hr.cc
 have h1 := hcc w h
 have h1' : ∀ o, (w.alloc o).cell? ⟨b, 301, none⟩ = some (.int .i64 l.length) := fun o => hcc _ (h.later (bal (Below.refl _ _) o))
 have HT : Hid (∀ j, j < l.length → l.take (j + 1) = l.take j ++ [l.getD j s0]) := fun j hj => take_snocS hj
 have HL : Hid (∀ j, j ≤ l.length → (l.take j).length = j) := fun j hj => by rw [List.length_take]; omega
 have hat := at_any b l k now
 generalize hn : l.length = n at *
 clear hn
 clear hcc
 go_enter Tryz.func51, Tryz.ntmps51
 go_wp2
 go_loopw [10, 3] (fun i v wr => ∃ j : Nat, j ≤ n ∧ i = .int .i64 j ∧ Own wr w.heap.size v (l.take j) ∧ Below w.heap.size w wr) (fun i _ _ => n - (intOf i).toNat)
 case atStart => exact ⟨0, by omega, rfl, World.ownsRow_made w #[] 0 (Nat.le_refl _) (Nat.zero_le _) (by simp), bal (Below.refl _ _) _⟩
 case round =>
  obtain ⟨j, hj, rfl, ho, hb⟩ := hrel
  by_cases hlt : j < n
  ·
   have hs := hat j wr (h.later hb) hlt
   have HN : Hid (l.take (j + 1) = l.take j ++ [l.getD j s0]) := HT.out j hlt
   have hlj : (l.take j).length = j := HL.out j hj
   generalize l.getD j s0 = s at *
   generalize l.take j = r at *
   go_wp2_with fail
   refine hs.mono ?_
   rintro e w1 ⟨rfl, hb1⟩
   have ho1 := (ho.later hb1).later (bal (Below.refl _ _) (.cells #[.int .i64 s.1, .bool s.2.1, .int .i64 s.2.2] 35))
   have hx := BoxS.new w1 s
   have hb2 := bal (Below.chain hb hb1) (.cells #[.int .i64 s.1, .bool s.2.1, .int .i64 s.2.2] 35)
   go_wp2_with (at_builtin; go_must (refine wpList_append_own _ rfl _ _ 51 rfl w.heap.size 35 i0 (sv s0) 3 24 Tryz.underlying51 hi hz0 hz1 hz2 zeroS (by decide) _ _ _ rfl ho1 ⟨w1.heap.size, 0, none⟩ 1 1 (cellsS [s]) rfl rfl ?hnews (cellsS_one _) ?h63 ?hby ?hbs ?_))
   case hnews => exact fun i u hu => hx.cells i u hu
   case h63 => unfold maxLen; omega
   case hby => omega
   case hbs => exact hb2.size
   intro v' w2 ho4 hg4 _
   go_wp2
   go_roundw
   case rel => exact ⟨j + 1, by omega, by go_num, by rw [HN.out]; exact Own.snoc (by rw [hlj]; exact ho4), hb2.grown hg4 hb2.size (fun k hk => (World.ownsRow.lt ho1 k hk).1)⟩
   case measure => simp [intOf]; omega
  ·
   obtain rfl : j = n := by omega
   rw [HA.out j (Nat.le_refl _)] at ho
   go_wp2
   go_ret
   exact ⟨_, rfl, ho, hb⟩
theorem Rl.len {w : World} {b : Nat} {l : List Smp} {k now : Int} (h : Rl w b l k now) : l.length ≤ 100 := by
 obtain ⟨f, o, ho, hl, hr, hf⟩ := h
 exact hl
theorem Rl.count {w : World} {b : Nat} {l : List Smp} {k now : Int} (h : Rl w b l k now) : w.cell? ⟨b, 301, none⟩ = some (.int .i64 l.length) := by
 obtain ⟨f, o, ho, hl, hr, hf⟩ := h
 exact hr.cc
theorem vls_snoc {l : List Smp} {j : Nat} (h : j < l.length) : vls (l.take (j + 1)) = vls (l.take j) ++ [(l.getD j s0).2] := by
 rw [take_snocS h]
 simp [vls]
set_option maxHeartbeats 2000000 in
theorem sumR_any (b : Nat) (l : List Smp) (k now : Int) (w : World) (h : Rl w b l k now) (hw : ∀ s ∈ l, R64 s.2.2) :
  Calls Tryz.prog 91 #[.pointer (some ⟨b, 0, none⟩)] w fun e w' => e = .returned (.agg #[.bool (ov (fSum (cnts (vls l)))), .int .i64 (nn (fSum (cnts (vls l))))]) ∧ Below w.heap.size w w' := by
 obtain ⟨i0, hi, hz0, hz1, hz2⟩ := infoN_parts
 have hlen := h.len
 have hb0 := bal (Below.refl _ w) (.cells #[.bool false, .int .i64 0] 33)
 have hx0 := Box.new w false 0
 have hfd := field_v
 have HA : Hid (vls (l.take l.length) = vls l) := by show _ = _; rw [List.take_of_length_le (Nat.le_refl _)]
 have h1' : ∀ o, ((w.alloc (.cells #[.bool false, .int .i64 0] 33)).alloc o).cell? ⟨b, 301, none⟩ = some (.int .i64 l.length) := fun o => (h.later (bal hb0 o)).count
 have HT : Hid (∀ j, j < l.length → vls (l.take (j + 1)) = vls (l.take j) ++ [(l.getD j s0).2]) := fun j hj => vls_snoc hj
 have HL : Hid (∀ j, j ≤ l.length → (vls (l.take j)).length = j) := fun j hj => by unfold vls; rw [List.length_map, List.length_take]; omega
 have hat := at_any b l k now
 have hsum : ∀ ao cap W, Ns W ao l.length (vls l) → _ := fun ao cap W hn => sum_any ao l.length cap (vls l) W (by omega) hn (by
  intro x hx
  obtain ⟨s, hs, rfl⟩ := List.mem_map.1 hx
  exact hw s hs)
 have HV : Hid ((vls l).length = l.length) := by show _ = _; simp [vls]
 generalize hn : l.length = n at *
 clear hn hw
 go_enter Tryz.func91, Tryz.ntmps91
 go_wp2
 go_loopw [10, 3] (fun i v wr => ∃ j : Nat, j ≤ n ∧ i = .int .i64 j ∧ OwnN wr (w.heap.size + 1) v (vls (l.take j)) ∧ Box wr w.heap.size false 0 ∧ Below w.heap.size w wr) (fun i _ _ => n - (intOf i).toNat)
 case atStart => exact ⟨0, by omega, rfl, by rw [show w.heap.size + 1 = (w.alloc (.cells #[.bool false, .int .i64 0] 33)).heap.size by simp]; exact World.ownsRow_made _ #[] 0 (Nat.le_refl _) (Nat.zero_le _) (by simp), hx0.later (bal (Below.refl _ _) _), bal hb0 _⟩
 case round =>
  obtain ⟨j, hj, rfl, ho, hx, hb⟩ := hrel
  have hxl := hx.lt
  by_cases hlt : j < n
  ·
   have hs := hat j wr (h.later hb) hlt
   have HN : Hid (vls (l.take (j + 1)) = vls (l.take j) ++ [(l.getD j s0).2]) := HT.out j hlt
   have hlj : (vls (l.take j)).length = j := HL.out j hj
   generalize l.getD j s0 = s at *
   generalize vls (l.take j) = r at *
   obtain ⟨t, s1, s2⟩ := s
   dsimp only at *
   go_wp2_with fail
   refine hs.mono ?_
   rintro e w1 ⟨rfl, hb1⟩
   have ho1 := (ho.later hb1).later (bal (Below.refl _ _) (.cells #[.bool s1, .int .i64 s2] 33))
   have hx1 := Box.new w1 s1 s2
   have hx2 := (hx.later hb1).later (bal (Below.refl _ _) (.cells #[.bool s1, .int .i64 s2] 33))
   have hb2 := bal (Below.chain hb hb1) (.cells #[.bool s1, .int .i64 s2] 33)
   have hsz : w.heap.size + 1 ≤ (w1.alloc (.cells #[.bool s1, .int .i64 s2] 33)).heap.size := by have := hx2.lt; omega
   go_wp2_with (at_builtin; go_must (refine wpList_append_own _ rfl _ _ 50 rfl (w.heap.size + 1) 33 i0 (.agg #[.bool false, .int .i64 0]) 2 16 Tryz.underlying50 hi hz0 hz1 hz2 zeroN (by decide) _ _ _ rfl ho1 ⟨w1.heap.size, 0, none⟩ 1 1 (cellsN [(s1, s2)]) rfl rfl ?hnews (cellsN_one _) ?h63 ?hby ?hbs ?_))
   case hnews => exact fun i u hu => Box.cellsN (x := (s1, s2)) hx1 i u hu
   case h63 => unfold maxLen; omega
   case hby => omega
   case hbs => exact hsz
   intro v' w2 ho4 hg4 _
   have hx4 := hx2.kept hg4 (fun e => by have := (World.ownsRow.lt ho1 _ e.symm).1; omega)
   go_wp2
   go_roundw
   case rel => exact ⟨j + 1, by omega, by go_num, by rw [HN.out]; exact OwnN.snoc (by rw [hlj]; exact ho4), hx4, hb2.grown hg4 hb2.size (fun k hk => by have := (World.ownsRow.lt ho1 k hk).1; omega)⟩
   case measure => simp [intOf]; omega
  ·
   obtain rfl : j = n := by omega
   rw [HA.out] at ho
   obtain ⟨ao, cap, rfl, hns⟩ := ho.slice
   rw [HV.out] at hns ⊢
   have hs := hsum ao cap wr hns
   generalize hfo : ov (fSum (cnts (vls l))) = fo at *
   generalize hfn : nn (fSum (cnts (vls l))) = fn at *
   have HFo : Hid (ov (fSum (cnts (vls l))) = fo) := hfo
   have HFn : Hid (nn (fSum (cnts (vls l))) = fn) := hfn
   clear hfo hfn
   go_wp2_with fail
   refine hs.mono ?_
   rintro e w1 ⟨rfl, hb1⟩
   have hx1 := hx.later hb1
   obtain ⟨c0, c1, g0, g1⟩ := id hx1
   obtain ⟨p0, p1, _, _⟩ := hx1.put (p := fo) (m := fn)
   go_wp2
   exact bodyPost_ret (v := .agg #[.bool fo, .int .i64 fn]) (by simp [results, Tryz.results91, go_sem, p0, p1]) rfl ⟨by rw [HFo.out, HFn.out], put2 (Below.chain hb hb1) (Nat.le_refl _) _ _⟩
/-- The mean of samples. -/
def avgP (l : List Smp) : Option Int := fDiv (fSum (cnts (vls l))) (fOf l.length)
theorem quo_r64 (l : List Smp) (n : Nat) : R64 (nn (fSum (cnts (vls l)))) ∧ R64 (nn (fOf n)) ∧ V (fSum (cnts (vls l))) ∧ V (fOf n) := ⟨V.r64 (V.sum _), V.r64 (V.norm _), V.sum _, V.norm _⟩
set_option maxHeartbeats 2000000 in
theorem avg_any (b : Nat) (l : List Smp) (k now : Int) (w : World) (h : Rl w b l k now) (hv : ∀ s ∈ l, R64 s.2.2) :
  Calls Tryz.prog 92 #[.pointer (some ⟨b, 0, none⟩)] w fun e w' => e = .returned (if l.isEmpty = true then .tuple #[.agg #[.bool false, .int .i64 0], .bool false] else .tuple #[.agg #[.bool (ov (avgP l)), .int .i64 (nn (avgP l))], .bool true]) ∧ Below w.heap.size w w' := by
 have hlen := h.len
 have hb0 := bal (Below.refl _ w) (.cells #[.bool false, .int .i64 0] 33)
 have hx0 := Box.new w false 0
 have hR1 := (h.later hb0)
 have hbl := h.lt
 have hc1 := hR1.count
 cases hle : l with
 | nil =>
  subst hle
  clear hR1
  go_enter Tryz.func92, Tryz.ntmps92
  go_wp2
  exact bodyPost_ret (v := .tuple #[.agg #[.bool false, .int .i64 0], .bool false]) (by simp [results, Tryz.results92, go_sem]) rfl ⟨rfl, hb0⟩
 | cons y ys =>
  rw [← hle]
  have hne : l.isEmpty = false := by rw [hle]; rfl
  have hpos : 0 < l.length := by rw [hle]; simp
  rw [hne, if_neg (by decide)]
  unfold avgP
  have hC : ∀ W, Rl W b l k now → W.cell? ⟨b, 301, none⟩ = some (.int .i64 l.length) := fun W hW => hW.count
  have hq := quo_r64 l l.length
  obtain ⟨_, _, hv1, hv2⟩ := id hq
  have h2 : ((l.length : Int) == 0) = false := by rw [beq_eq_false_iff_ne]; omega
  clear hle hne
  generalize hn : l.length = n at *
  clear hn
  go_enter Tryz.func92, Tryz.ntmps92
  go_wp2_with fail
  generalize w.alloc (.cells #[.bool false, .int .i64 0] 33) = wa at *
  have hR1 : Rl wa.drew b l k now := hR1.later (Below.refl _ _).drew
  have hx0 : Box wa.drew w.heap.size false 0 := hx0.later (Below.refl _ _).drew
  have hb0 : Below w.heap.size w wa.drew := hb0.trans (Below.refl _ _).drew
  have h301 : wa.drew.cell? ⟨b, 301, none⟩ = some (.int .i64 n) := hc1
  have hS0 : (fun W : World => W.cell? ⟨b, 301, none⟩ = some (Value.int .i64 n)) _ := h301
  refine wp_region_noPanic ?_
  refine wp_region_held_drew (S := fun W : World => W.cell? ⟨b, 301, none⟩ = some (Value.int .i64 n)) (by kernel_rfl) hS0 (fun _ => ?_)
  refine take_at 0 (some 10) (.pointer (some ⟨b, 0, none⟩)) rfl rfl (by kernel_rfl) (by kernel_rfl) (by kernel_rfl) (fun _ _ _ h => h) (by rfl) (fun W hSw => by have q0 : W.cell? ⟨b, 301, none⟩ = some (Value.int .i64 n) := hSw; go_simp) hS0 ?_
  simp only [Act.put, List.setIfInBounds_toArray, List.set_cons_zero, List.set_cons_succ]
  refine take_at 2 (some 12) (.pointer (some ⟨b, 0, none⟩)) rfl rfl (by kernel_rfl) (by kernel_rfl) (by kernel_rfl) (fun _ _ _ h => h) (by rfl) (fun W hSw => by have q0 : W.cell? ⟨b, 301, none⟩ = some (Value.int .i64 n) := hSw; go_simp) hS0 ?_
  simp only [Act.put, List.setIfInBounds_toArray, List.set_cons_zero, List.set_cons_succ]
  refine take_at 3 (some 13) (.pointer (some ⟨b, 0, none⟩)) rfl rfl (by kernel_rfl) (by kernel_rfl) (by kernel_rfl) (fun _ _ _ h => h) (by rfl) (fun W hSw => by have q0 : W.cell? ⟨b, 301, none⟩ = some (Value.int .i64 n) := hSw; go_simp) hS0 ?_
  simp only [Act.put, List.setIfInBounds_toArray, List.set_cons_zero, List.set_cons_succ]
  refine take_at 4 (some 14) (.pointer (some ⟨b, 301, none⟩)) rfl rfl (by kernel_rfl) (by kernel_rfl) (by kernel_rfl) (fun _ _ _ h => h) (by rfl) (fun W hSw => by have q0 : W.cell? ⟨b, 301, none⟩ = some (Value.int .i64 n) := hSw; go_simp) hS0 ?_
  simp only [Act.put, List.setIfInBounds_toArray, List.set_cons_zero, List.set_cons_succ]
  refine take_at 5 (some 15) (.int .i64 n) rfl rfl (by kernel_rfl) (by kernel_rfl) (by kernel_rfl) (fun _ _ _ h => h) (by rfl) (fun W hSw => by have q0 : W.cell? ⟨b, 301, none⟩ = some (Value.int .i64 n) := hSw; go_simp) hS0 ?_
  simp only [Act.put, List.setIfInBounds_toArray, List.set_cons_zero, List.set_cons_succ]
  refine wpAnyH_ready (rs := [1]) (by kernel_rfl) (by simp) ?_
  refine AllReadyH.cons rfl (fun K hK => ?_) AllReadyH.nil
  go_simp
  refine (sumR_any b l k now _ hR1 hv).mono ?_
  rintro e w1 ⟨rfl, hb1⟩
  have hR2 := hR1.later hb1
  have hS1 := (hC w1 hR2)
  refine hK.out _ _ hS1 (fun _ => ?_)
  clear hK K
  refine wpAnyH_ready (rs := [6]) (by kernel_rfl) (by simp) ?_
  refine AllReadyH.cons rfl (fun K hK => ?_) AllReadyH.nil
  go_simp
  refine (of_any n _ (by unfold R64; omega)).mono ?_
  rintro e w2 ⟨rfl, hb2⟩
  have hR3 := hR2.later hb2
  have hS2 := (hC w2 hR3)
  refine hK.out _ _ hS2 (fun _ => ?_)
  clear hK K
  refine wpAnyH_ready (rs := [7]) (by kernel_rfl) (by simp) ?_
  refine AllReadyH.cons rfl (fun K hK => ?_) AllReadyH.nil
  go_simp
  refine (quo_any _ _ _ _ _ hq.1 hq.2.1).mono ?_
  rw [cnt_val hv1, cnt_val hv2]
  rintro e w3 ⟨rfl, hb3⟩
  have hR4 := hR3.later hb3
  have hS3 := (hC w3 hR4)
  refine hK.out _ _ hS3 (fun _ => ?_)
  clear hK K
  have hbx := ((hx0.later hb1).later hb2).later hb3
  obtain ⟨c0, c1, g0, g1⟩ := id hbx
  obtain ⟨p0, p1, _, _⟩ := hbx.put (p := ov (fDiv (fSum (cnts (vls l))) (fOf n))) (m := nn (fDiv (fSum (cnts (vls l))) (fOf n)))
  have hb5 := put2 (Below.chain (Below.chain (Below.chain hb0 hb1) hb2) hb3) (Nat.le_refl _) (ov (fDiv (fSum (cnts (vls l))) (fOf n))) (nn (fDiv (fSum (cnts (vls l))) (fOf n)))
  have hR5 := hR4.kept ((grown_set w3 w.heap.size 0 (.bool (ov (fDiv (fSum (cnts (vls l))) (fOf n))))).trans (grown_set _ w.heap.size 1 (.int .i64 (nn (fDiv (fSum (cnts (vls l))) (fOf n)))))) (by simp; omega)
  refine wpAnyH_ready (rs := [8]) (by kernel_rfl) (by simp) ?_
  refine AllReadyH.cons rfl (fun K hK => ?_) AllReadyH.nil
  go_simp
  have hS4 := (hC _ hR5)
  refine hK.out _ _ hS4 (fun _ => ?_)
  clear hK K
  refine wpAnyH_ready (rs := [9]) (by kernel_rfl) (by simp) ?_
  refine AllReadyH.cons rfl (fun K hK => ?_) AllReadyH.nil
  go_simp
  have hS5 := (hC _ hR5)
  refine hK.out _ _ hS5 (fun _ => ?_)
  clear hK K
  refine wpAnyH_done (by kernel_rfl) ?_ _
  refine NoPanic.normal ?_
  go_wp2
  exact bodyPost_ret (v := .tuple #[.agg #[.bool (ov (fDiv (fSum (cnts (vls l))) (fOf n))), .int .i64 (nn (fDiv (fSum (cnts (vls l))) (fOf n)))], .bool true]) (by simp [results, Tryz.results92, go_sem, p0, p1]) rfl ⟨rfl, hb5⟩
set_option maxHeartbeats 2000000 in
theorem delta_any (b : Nat) (l : List Smp) (k now : Int) (w : World) (h : Rl w b l k now) (hv : ∀ s ∈ l, R64 s.2.2) :
  Calls Tryz.prog 96 #[.pointer (some ⟨b, 0, none⟩)] w fun e w' => e = .returned (if l.length < 2 then .tuple #[.agg #[.bool false, .int .i64 0], .bool false] else .tuple #[.agg #[.bool (ov (dltP l)), .int .i64 (nn (dltP l))], .bool true]) ∧ Below w.heap.size w w' := by
 have hlen := h.len
 have hb0 := bal (Below.refl _ w) (.cells #[.bool false, .int .i64 0] 33)
 have hx0 := Box.new w false 0
 have hR1 := (h.later hb0)
 have hc1 := hR1.count
 by_cases hle : l.length < 2
 ·
  rw [if_pos hle]
  have h2 : decide ((l.length : Int) < 2) = true := decide_eq_true (by omega)
  clear hR1 hle hv
  generalize l.length = n at *
  go_enter Tryz.func96, Tryz.ntmps96
  go_wp2
  exact bodyPost_ret (v := .tuple #[.agg #[.bool false, .int .i64 0], .bool false]) (by simp [results, Tryz.results96, go_sem]) rfl ⟨rfl, hb0⟩
 ·
  rw [if_neg hle]
  have h2 : decide ((l.length : Int) < 2) = false := decide_eq_false (by omega)
  have hfd := field_v
  have hat := at_any b l k now
  have HD : Hid (dltP l = fAdd (cnt (lst l).2.1 (lst l).2.2) (fNeg (cnt (l.getD 0 s0).2.1 (l.getD 0 s0).2.2))) := rfl
  have HL : Hid (l.getD (l.length - 1) s0 = lst l) := rfl
  have hm1 : lst l ∈ l := lst_mem (by intro e; rw [e] at hle; simp at hle)
  have hm0 : l.getD 0 s0 ∈ l := by
   rw [List.getD_eq_getElem?_getD, List.getElem?_eq_getElem (by omega)]
   exact List.getElem_mem _
  have r1 := hv _ hm1
  have r0 := hv _ hm0
  clear hm1 hm0 hv
  generalize hn : l.length = n at *
  clear hn
  obtain ⟨m, rfl⟩ : ∃ m, n = m + 1 := ⟨n - 1, by omega⟩
  have hc1' : (w.alloc (.cells #[.bool false, .int .i64 0] 33)).cell? ⟨b, 301, none⟩ = some (.int .i64 ((m : Int) + 1)) := hc1
  clear hc1
  have h2' : decide ((m : Int) + 1 < 2) = false := h2
  have e1 : wrap64 ((m : Int) + 1 - 1) = (m : Int) := by unfold wrap64; omega
  have e2 : wrap64 (m : Int) = (m : Int) := by unfold wrap64; omega
  have hs1 := hat m _ hR1 (by omega)
  rw [show m = m + 1 - 1 by omega, HL.out] at hs1
  rw [show m + 1 - 1 = m by omega] at hs1
  have hs0 := fun W hW => hat 0 W hW (by omega)
  clear hat
  generalize lst l = x at *
  generalize l.getD 0 s0 = y at *
  obtain ⟨xt, xo, xn⟩ := x
  obtain ⟨yt, yo, yn⟩ := y
  dsimp only at *
  go_enter Tryz.func96, Tryz.ntmps96
  go_wp2_with fail
  refine hs1.mono ?_
  rintro e w1 ⟨rfl, hb1⟩
  have hR2 := hR1.later hb1
  go_wp2_with fail
  refine (hs0 _ hR2).mono ?_
  rintro e w2 ⟨rfl, hb2⟩
  go_wp2_with fail
  refine (sub_any xo yo xn yn _ r1 r0).mono ?_
  rintro e w3 ⟨rfl, hb3⟩
  generalize fAdd (cnt xo xn) (fNeg (cnt yo yn)) = q at *
  have hbx := ((hx0.later hb1).later hb2).later hb3
  obtain ⟨c0, c1, g0, g1⟩ := id hbx
  obtain ⟨p0, p1, _, _⟩ := hbx.put (p := ov q) (m := nn q)
  go_wp2
  exact bodyPost_ret (v := .tuple #[.agg #[.bool (ov q), .int .i64 (nn q)], .bool true]) (by simp [results, Tryz.results96, go_sem, p0, p1]) rfl ⟨by rw [HD.out], put2 (Below.chain (Below.chain (Below.chain hb0 hb1) hb2) hb3) (Nat.le_refl _) _ _⟩
end Go.Proofs.YtjgckfcocmhnhaaGreatDoor.Rn
namespace Go.Proofs.YtjgckfcocmhnhaaGreatDoor.Rn
open Go.RowKit
/-- A window as it is reached: in memory, and as the document has it. -/
structure St (w : World) (b : Nat) (l : List Smp) (k now : Int) : Prop where
 m : Rl w b l k now
 f : Wf l k now
theorem St.later {w w' : World} {b : Nat} {l : List Smp} {k now : Int} (h : St w b l k now) (hb : Below w.heap.size w w') : St w' b l k now := ⟨h.m.later hb, h.f⟩
theorem St.kept {w w' : World} {b : Nat} {l : List Smp} {k now : Int} (h : St w b l k now) {row : Option Nat} (hg : w.grownBy w' row) (hne : some b ≠ row) : St w' b l k now := ⟨h.m.kept hg hne, h.f⟩
theorem new_st (n : Int) (w : World) : Calls Tryz.prog 69 #[.int .i64 n] w fun e w' => e = .returned (.pointer (some ⟨w.heap.size, 0, none⟩)) ∧ St w' w.heap.size [] (clamp n) 0 ∧ Below w.heap.size w w' :=
 (new_any n w).mono fun _ _ ⟨h1, h2, h3⟩ => ⟨h1, ⟨Rl.new h2, Wf.none (clamp_range n) ⟨by omega, by omega⟩⟩, h3⟩
theorem adv_st (b : Nat) (l : List Smp) (k now n : Int) (w : World) (h : St w b l k now) :
  Calls Tryz.prog 27 #[.pointer (some ⟨b, 0, none⟩), .int .i64 n] w fun e w' => e = .returned (.tuple #[]) ∧ St w' b (fg (onw now n - k) l) k (onw now n) ∧ w.grownBy w' (some b) :=
 (advance_any b l k now n w h.m h.f).mono fun _ _ ⟨h1, h2, h3⟩ => ⟨h1, ⟨h2, h.f.advance n⟩, h3⟩
theorem add_st (b : Nat) (l : List Smp) (k now : Int) (s : Smp) (w : World) (h : St w b l k now) (hr : R64 s.2.2) :
  Calls Tryz.prog 33 #[.pointer (some ⟨b, 0, none⟩), sv s] w fun e w' => e = .returned (.int .i64 (adE l k now s.1)) ∧ St w' b (adL l k now s) k now ∧ w.grownBy w' (some b) :=
 (add_any b l k now s w h.m h.f hr).mono fun _ _ ⟨h1, h2, h3⟩ => ⟨h1, ⟨h2, h.f.add s hr⟩, h3⟩
theorem r64_lit {n : Int} (h : (decide (-9223372036854775808 ≤ n) && decide (n ≤ 9223372036854775807)) = true) : R64 n := by
 rw [Bool.and_eq_true, decide_eq_true_eq, decide_eq_true_eq] at h
 exact h
end Go.Proofs.YtjgckfcocmhnhaaGreatDoor.Rn
namespace Go.Proofs.YtjgckfcocmhnhaaGreatDoor.Rn
open Go.RowKit
theorem getD_memS {l : List Smp} {j : Nat} (h : j < l.length) : l.getD j s0 ∈ l := by
 rw [List.getD_eq_getElem?_getD, List.getElem?_eq_getElem h]
 exact List.getElem_mem h
theorem step_append {ops : Array Oper} {o : Oper} {a : Act} {W : World} {K : Act → World → Prop} {Q : Exit → Act → World → Prop} {E : Prop} (s x : Operand) (d : Option Tmp) (t : TypeId)
  (ho : o.op = .call { callee := .builtin .append, args := #[s, x], argTypes := #[t, t] }) (hd : o.dst = d) (hw : Region.wanted o (yielded ops a.tmps) = true)
  (base : Nat) (e : TypeId) (i : TypeInfo) (z : Value) (size bytes : Nat) (ht : Tryz.prog.underlying t = some (.slice e)) (hi : Tryz.prog.info? e = some i) (hz : i.zero = some z)
  (hsize : i.size = size) (hby : i.bytes = bytes) (hzs : z.cells.size = size) (hsz : 0 < size)
  (v : Value) (n : Nat) (xs : List Value) (hs : a.eval s = v) (hown : W.ownsRow base e size v n xs)
  (ad : Addr) (m c : Nat) (news : List Value) (hx : a.eval x = .slice (some ad) m c) (hl : news.length = m * size) (hnews : ∀ j u, news[j]? = some u → W.cell? (ad.add j) = some u) (h1 : ∀ u ∈ news, u.oneCell' = true)
  (h63 : n + m ≤ maxLen) (hbytes : (n + m) * bytes ≤ 140737488355328) (hbase : base ≤ W.heap.size)
  (h : ∀ v' w', w'.ownsRow base e size v' (n + m) (xs ++ news) → W.grownBy w' v.ownBlock → K (a.put d v') w') :
  if Region.wanted o (yielded ops a.tmps) = true then Oper.wp Tryz.prog o a W K Q else E := by
 subst hd
 rw [if_pos hw]
 exact wp_append_own W s x t ho base e i z size bytes ht hi hz hsize hby hzs hsz v n xs hs hown ad m c news hx hl hnews h1 h63 hbytes hbase fun v' w' h2 h3 _ => h v' w' h2 h3
def incO (q s : Bool × Int) : Option Int := if fCmp (cnt s.1 s.2) (cnt q.1 q.2) < 0 then cnt s.1 s.2 else fAdd (cnt s.1 s.2) (fNeg (cnt q.1 q.2))
def incN (q s : Bool × Int) : Bool × Int := (ov (incO q s), nn (incO q s))
theorem incO_v (q s : Bool × Int) (h : R64 s.2) : V (incO q s) := by
 unfold incO
 split
 ·
  exact V.cnt h.1 h.2
 ·
  exact V.add _ _
def dls (l : List Smp) (p : Nat) : List (Bool × Int) := (List.range p).map fun j => incN (l.getD j s0).2 (l.getD (j + 1) s0).2
theorem dls_len (l : List Smp) (p : Nat) : (dls l p).length = p := by simp [dls]
theorem dls_snoc (l : List Smp) (p : Nat) : dls l (p + 1) = dls l p ++ [incN (l.getD p s0).2 (l.getD (p + 1) s0).2] := by simp [dls, List.range_succ]
theorem dls_r64 (l : List Smp) (h : ∀ s ∈ l, R64 s.2.2) (p : Nat) (hp : p + 1 ≤ l.length) : ∀ x ∈ dls l p, R64 x.2 := by
 intro x hx
 obtain ⟨j, hj, rfl⟩ := List.mem_map.1 hx
 have hj := List.mem_range.1 hj
 exact V.r64 (incO_v _ _ (h _ (getD_memS (by omega))))
/-- What a counter's samples rose by. -/
def incP (l : List Smp) : Option Int := fSum (cnts (dls l (l.length - 1)))
theorem inum (i n p : Nat) (h : p + 1 = i) (hi : i < n) (hn : n ≤ 100) : Hid (IntKind.i64.wrap ((i : Int) - 1) = (p : Int)) := by
 show _ = _
 rw [wI (by omega) (by omega)]
 omega
end Go.Proofs.YtjgckfcocmhnhaaGreatDoor.Rn
namespace Go.Proofs.YtjgckfcocmhnhaaGreatDoor.Rn
open Go.RowKit
theorem reset_any (o p : Bool) (n m : Int) (w : World) (hn : R64 n) (hm : R64 m) : Calls Tryz.prog 134 #[.agg #[.bool o, .int .i64 n], .agg #[.bool p, .int .i64 m]] w fun e w' => e = .returned (.bool (decide (fCmp (cnt p m) (cnt o n) < 0))) ∧ Below w.heap.size w w' := by
 obtain ⟨hx, hy, hb⟩ := boxes2 w o p n m
 have hc := fun W => cmp_any p o m n W hm hn
 generalize fCmp (cnt p m) (cnt o n) = r at *
 go_enter Tryz.func134, Tryz.ntmps134
 go_wp2_with fail
 refine (hc _).mono ?_
 rintro e w2 ⟨rfl, hb2⟩
 go_wp2
 go_ret
 exact ⟨rfl, Below.chain hb hb2⟩
theorem reset_plain {o p : Bool} {n m : Int} (h : fCmp (cnt p m) (cnt o n) < 0) : ov (cnt p m) = p ∧ nn (cnt p m) = m := by
 unfold cnt at *
 by_cases e : p = true ∨ m = -9223372036854775808
 ·
  rw [if_pos e] at h
  exfalso
  by_cases e2 : o = true ∨ n = -9223372036854775808
  ·
   rw [if_pos e2] at h; exact absurd h (by decide)
  ·
   rw [if_neg e2] at h; exact absurd (show (1 : Int) < 0 from h) (by omega)
 ·
  rw [if_neg e]
  cases p with
  | true => exact absurd (Or.inl rfl) e
  | false => exact ⟨rfl, rfl⟩
set_option maxHeartbeats 1000000 in
theorem rise_any (o p : Bool) (n m : Int) (w : World) (hn : R64 n) (hm : R64 m) : Calls Tryz.prog 119 #[.agg #[.bool o, .int .i64 n], .agg #[.bool p, .int .i64 m]] w fun e w' => e = .returned (.agg #[.bool (incN (o, n) (p, m)).1, .int .i64 (incN (o, n) (p, m)).2]) ∧ Below w.heap.size w w' := by
 obtain ⟨hx, hy, hz, hb⟩ := boxes3 w o p false n m 0
 have hc := fun W => reset_any o p n m W hn hm
 by_cases h : fCmp (cnt p m) (cnt o n) < 0
 ·
  obtain ⟨e1, e2⟩ := reset_plain h
  have e3 : incN (o, n) (p, m) = (p, m) := by
   show (ov (incO _ _), nn (incO _ _)) = _
   unfold incO
   rw [if_pos h]
   show (ov (cnt p m), nn (cnt p m)) = _
   rw [e1, e2]
  rw [e3]
  rw [decide_eq_true h] at hc
  clear h e1 e2 e3
  go_enter Tryz.func119, Tryz.ntmps119
  go_wp2_with fail
  generalize ((w.alloc (.cells #[.bool o, .int .i64 n] 33)).alloc (.cells #[.bool p, .int .i64 m] 33)).alloc (.cells #[.bool false, .int .i64 0] 33) = w1 at *
  refine (hc _).mono ?_
  rintro e w2 ⟨rfl, hb2⟩
  obtain ⟨d0, d1, g0, g1⟩ := hy.later hb2
  obtain ⟨c0, c1, f0, f1⟩ := hz.later hb2
  obtain ⟨p0, p1, _, _⟩ := (hz.later hb2).put (p := p) (m := m)
  go_wp2
  exact bodyPost_ret (v := .agg #[.bool p, .int .i64 m]) (by simp [results, Tryz.results119, go_sem, p0, p1]) rfl ⟨rfl, put2 (Below.chain hb hb2) (by omega) _ _⟩
 ·
  have e3 : incN (o, n) (p, m) = (ov (fAdd (cnt p m) (fNeg (cnt o n))), nn (fAdd (cnt p m) (fNeg (cnt o n)))) := by
   show (ov (incO _ _), nn (incO _ _)) = _
   unfold incO
   rw [if_neg h]
  rw [e3]
  rw [decide_eq_false h] at hc
  have hs := fun W => sub_any p o m n W hm hn
  generalize ov (fAdd (cnt p m) (fNeg (cnt o n))) = fo at *
  generalize nn (fAdd (cnt p m) (fNeg (cnt o n))) = fn at *
  clear h e3
  go_enter Tryz.func119, Tryz.ntmps119
  go_wp2_with fail
  generalize ((w.alloc (.cells #[.bool o, .int .i64 n] 33)).alloc (.cells #[.bool p, .int .i64 m] 33)).alloc (.cells #[.bool false, .int .i64 0] 33) = w1 at *
  refine (hc _).mono ?_
  rintro e w2 ⟨rfl, hb2⟩
  obtain ⟨d0, d1, g0, g1⟩ := hy.later hb2
  obtain ⟨x0, x1, _, _⟩ := hx.later hb2
  go_wp2_with fail
  refine (hs _).mono ?_
  rintro e w3 ⟨rfl, hb3⟩
  have hz3 := (hz.later hb2).later hb3
  obtain ⟨c0, c1, f0, f1⟩ := id hz3
  obtain ⟨p0, p1, _, _⟩ := hz3.put (p := fo) (m := fn)
  go_wp2
  exact bodyPost_ret (v := .agg #[.bool fo, .int .i64 fn]) (by simp [results, Tryz.results119, go_sem, p0, p1]) rfl ⟨rfl, put2 (Below.chain (Below.chain hb hb2) hb3) (by omega) _ _⟩
end Go.Proofs.YtjgckfcocmhnhaaGreatDoor.Rn
namespace Go.Proofs.YtjgckfcocmhnhaaGreatDoor.Rn
open Go.RowKit
set_option maxHeartbeats 8000000 in
theorem of_row (ao : Option Addr) (n cap : Nat) (l : List Smp) (w : World) (hn : n ≤ 100) (hs : Ms w ao n l) (hl : ∀ s ∈ l, R64 s.2.2) :
  Calls Tryz.prog 94 #[.slice ao n cap] w fun e w' => e = .returned (if n < 2 then .tuple #[.agg #[.bool false, .int .i64 0], .bool false] else .tuple #[.agg #[.bool (ov (incP l)), .int .i64 (nn (incP l))], .bool true]) ∧ Below w.heap.size w w' := by
 obtain ⟨i0, hi, hz0, hz1, hz2⟩ := infoN_parts
 have hb0 := bal (Below.refl _ w) (.cells #[.bool false, .int .i64 0] 33)
 have hx0 := Box.new w false 0
 by_cases h2 : n < 2
 ·
  rw [if_pos h2]
  have d2 : decide ((n : Int) < 2) = true := decide_eq_true (by omega)
  obtain ⟨c0, c1, g0, g1⟩ := id hx0
  obtain ⟨p0, p1, _, _⟩ := hx0.put (p := false) (m := 0)
  go_enter Tryz.func94, Tryz.ntmps94
  go_wp2
  exact bodyPost_ret (v := .tuple #[.agg #[.bool false, .int .i64 0], .bool false]) (by simp [results, Tryz.results94, go_sem]) rfl ⟨rfl, by first | exact put2 hb0 (Nat.le_refl _) _ _ | exact hb0⟩
 ·
  rw [if_neg h2]
  have d2 : decide ((n : Int) < 2) = false := decide_eq_false (by omega)
  obtain ⟨hla, hca⟩ := hs
  have HA : Hid (l.length = n) := hla
  obtain ⟨b, off, rfl, hc⟩ := hca (by omega)
  have HC : Hid (∀ W, Below w.heap.size w W → ∀ j, j < n → W.cell? ⟨b, off + j * 3 + 1, none⟩ = some (.bool (l.getD j s0).2.1) ∧ W.cell? ⟨b, off + j * 3 + 2, none⟩ = some (.int .i64 (l.getD j s0).2.2)) := by
   intro W hW j hj
   obtain ⟨c0, c1, c2⟩ := hc j hj
   exact ⟨(hW.cell (World.block_lt_of_cell? _ _ c1)).trans c1, (hW.cell (World.block_lt_of_cell? _ _ c2)).trans c2⟩
  have HRD : Hid (∀ p, p + 1 ≤ n → ∀ x ∈ dls l p, R64 x.2) := fun p hp => dls_r64 l hl p (by rw [HA.out]; exact hp)
  have HIP : Hid (incP l = fSum (cnts (dls l (n - 1)))) := by rw [← HA.out]; rfl
  have HR : Hid (∀ j, j < n → R64 (l.getD j s0).2.2) := fun j hj => hl _ (getD_memS (by rw [HA.out]; exact hj))
  clear hla hca hc hl
  obtain ⟨m, hm⟩ : ∃ m, m + 1 = n := ⟨n - 1, by omega⟩
  have em : wrap64 ((n : Int) - 1) = (m : Int) := by unfold wrap64; omega
  have em2 : (n : Int) - 1 = (m : Int) := by omega
  have EM : Hid (m + 1 = n) := hm
  have hm100 : m ≤ 100 := by omega
  clear hm
  go_enter Tryz.func94, Tryz.ntmps94
  go_wp2_with (at_make; refine wpList_make_own _ rfl _ _ 50 rfl (w.heap.size + 1) 33 i0 (.agg #[.bool false, .int .i64 0]) 2 Tryz.underlying50 hi hz0 hz1 _ _ _ m rfl rfl (by first | rfl | omega) ?b2 ?b3 ?b4 ?_)
  case b2 => rw [hz2]; omega
  case b3 => unfold maxLen; omega
  case b4 => simp
  intro w0 hown0 hgr0
  have hX0 : Box w0 w.heap.size false 0 := hx0.kept hgr0 (by simp)
  have hbw0 : Below w.heap.size w w0 := hb0.grown hgr0 hb0.size (fun k h => by cases h)
  go_wp2
  go_loopw [5, 4] (fun t v wr => ∃ (p i : Nat) (D : List (Bool × Int)) (vd : Value), Hid (p + 1 = i ∧ i ≤ n ∧ D = dls l p) ∧ t = .int .i64 i ∧ vd = v ∧ OwnN wr (w.heap.size + 1) vd D ∧ Box wr w.heap.size false 0 ∧ Below w.heap.size w wr) (fun t _ _ => n - (intOf t).toNat)
  case atStart => exact ⟨0, 1, [], _, ⟨rfl, by omega, rfl⟩, rfl, rfl, by first | exact hown0 | simpa using hown0, hX0, hbw0⟩
  case round =>
   obtain ⟨p, i, D, vd, HP, rfl, hvd, ho, hX, hb⟩ := hrel
   subst hvd
   obtain ⟨hpi, hin, hDe⟩ := HP.out
   have hDl : D.length = p := by rw [hDe, dls_len]
   clear hDe
   by_cases hlt : i < n
   ·
    have hd : decide ((i : Int) < (n : Int)) = true := decide_eq_true (by omega)
    have hpn : p < n := by omega
    have EP := inum i n p hpi hlt hn
    have HZ : Hid (∀ W, Below w.heap.size w W → W.cell? ⟨b, off + i * 3 + 1, none⟩ = some (.bool (l.getD i s0).2.1) ∧ W.cell? ⟨b, off + i * 3 + 2, none⟩ = some (.int .i64 (l.getD i s0).2.2) ∧ W.cell? ⟨b, off + p * 3 + 1, none⟩ = some (.bool (l.getD p s0).2.1) ∧ W.cell? ⟨b, off + p * 3 + 2, none⟩ = some (.int .i64 (l.getD p s0).2.2)) :=
     fun W hW => ⟨(HC.out W hW i hlt).1, (HC.out W hW i hlt).2, (HC.out W hW p hpn).1, (HC.out W hW p hpn).2⟩
    have HD1 : Hid (D ++ [incN (l.getD p s0).2 (l.getD i s0).2] = dls l i) := by
     show _ = _
     rw [HP.out.2.2, ← hpi, dls_snoc]
    have hr1 := HR.out i hlt
    have hr2 := HR.out p hpn
    have hbd := hb.trans (Below.refl _ _).drew
    have hod := ho.later (Below.refl _ wr).drew
    have hXd := hX.later (Below.refl _ wr).drew
    obtain ⟨z0, z1, z2, z3⟩ := HZ.out _ hbd
    generalize l.getD i s0 = s at *
    generalize l.getD p s0 = q at *
    obtain ⟨s0', s1, s2⟩ := s
    obtain ⟨t0, t1, t2⟩ := q
    dsimp only at *
    have hri := fun W => rise_any t1 s1 t2 s2 W hr2 hr1
    generalize hfx : incN (t1, t2) (s1, s2) = fx at *
    obtain ⟨fo, fn⟩ := fx
    dsimp only at *
    clear hfx
    have hmx : n - (i + 1) < n - i := by omega
    have hi1 : i + 1 ≤ n := hlt
    have hDm : D.length + 1 ≤ 101 := by omega
    clear hDl hpi hin
    go_wp2_with fail
    have hS0 : (fun W : World => W.cell? ⟨b, off + i * 3 + 1, none⟩ = some (Value.bool s1) ∧ W.cell? ⟨b, off + i * 3 + 2, none⟩ = some (Value.int .i64 s2) ∧ W.cell? ⟨b, off + p * 3 + 1, none⟩ = some (Value.bool t1) ∧ W.cell? ⟨b, off + p * 3 + 2, none⟩ = some (Value.int .i64 t2)) _ := ⟨z0, z1, z2, z3⟩
    refine wp_region_noPanic ?_
    refine wp_region_held_drew (S := fun W : World => W.cell? ⟨b, off + i * 3 + 1, none⟩ = some (Value.bool s1) ∧ W.cell? ⟨b, off + i * 3 + 2, none⟩ = some (Value.int .i64 s2) ∧ W.cell? ⟨b, off + p * 3 + 1, none⟩ = some (Value.bool t1) ∧ W.cell? ⟨b, off + p * 3 + 2, none⟩ = some (Value.int .i64 t2)) (by kernel_rfl) hS0 (fun _ => ?_)
    refine take_at 0 (some 20) (vd) rfl rfl (by kernel_rfl) (by kernel_rfl) (by kernel_rfl) (fun _ _ _ h => h) (by rfl) (fun W hSw => by obtain ⟨q0, q1, q2, q3⟩ := hSw; go_simp <;> exact EP.out) hS0 ?_
    simp only [Act.put, List.setIfInBounds_toArray, List.set_cons_zero, List.set_cons_succ]
    refine take_at 1 (some 21) (.slice (some ⟨b, off, none⟩) n cap) rfl rfl (by kernel_rfl) (by kernel_rfl) (by kernel_rfl) (fun _ _ _ h => h) (by rfl) (fun W hSw => by obtain ⟨q0, q1, q2, q3⟩ := hSw; go_simp <;> exact EP.out) hS0 ?_
    simp only [Act.put, List.setIfInBounds_toArray, List.set_cons_zero, List.set_cons_succ]
    refine take_at 2 (some 22) (.int .i64 i) rfl rfl (by kernel_rfl) (by kernel_rfl) (by kernel_rfl) (fun _ _ _ h => h) (by rfl) (fun W hSw => by obtain ⟨q0, q1, q2, q3⟩ := hSw; go_simp <;> exact EP.out) hS0 ?_
    simp only [Act.put, List.setIfInBounds_toArray, List.set_cons_zero, List.set_cons_succ]
    refine take_at 3 (some 23) (.int .i64 p) rfl rfl (by kernel_rfl) (by kernel_rfl) (by kernel_rfl) (fun _ _ _ h => h) (by rfl) (fun W hSw => by obtain ⟨q0, q1, q2, q3⟩ := hSw; go_simp <;> exact EP.out) hS0 ?_
    simp only [Act.put, List.setIfInBounds_toArray, List.set_cons_zero, List.set_cons_succ]
    refine take_at 4 (some 24) (.pointer (some ⟨b, off + p * 3, none⟩)) rfl rfl (by kernel_rfl) (by kernel_rfl) (by kernel_rfl) (fun _ _ _ h => h) (by rfl) (fun W hSw => by obtain ⟨q0, q1, q2, q3⟩ := hSw; go_simp <;> exact EP.out) hS0 ?_
    simp only [Act.put, List.setIfInBounds_toArray, List.set_cons_zero, List.set_cons_succ]
    refine take_at 5 (some 25) (.pointer (some ⟨b, off + p * 3 + 1, none⟩)) rfl rfl (by kernel_rfl) (by kernel_rfl) (by kernel_rfl) (fun _ _ _ h => h) (by rfl) (fun W hSw => by obtain ⟨q0, q1, q2, q3⟩ := hSw; go_simp <;> exact EP.out) hS0 ?_
    simp only [Act.put, List.setIfInBounds_toArray, List.set_cons_zero, List.set_cons_succ]
    refine take_at 6 (some 26) (.agg #[.bool t1, .int .i64 t2]) rfl rfl (by kernel_rfl) (by kernel_rfl) (by kernel_rfl) (fun _ _ _ h => h) (by rfl) (fun W hSw => by obtain ⟨q0, q1, q2, q3⟩ := hSw; go_simp <;> exact EP.out) hS0 ?_
    simp only [Act.put, List.setIfInBounds_toArray, List.set_cons_zero, List.set_cons_succ]
    refine take_at 7 (some 27) (.slice (some ⟨b, off, none⟩) n cap) rfl rfl (by kernel_rfl) (by kernel_rfl) (by kernel_rfl) (fun _ _ _ h => h) (by rfl) (fun W hSw => by obtain ⟨q0, q1, q2, q3⟩ := hSw; go_simp <;> exact EP.out) hS0 ?_
    simp only [Act.put, List.setIfInBounds_toArray, List.set_cons_zero, List.set_cons_succ]
    refine take_at 8 (some 28) (.int .i64 i) rfl rfl (by kernel_rfl) (by kernel_rfl) (by kernel_rfl) (fun _ _ _ h => h) (by rfl) (fun W hSw => by obtain ⟨q0, q1, q2, q3⟩ := hSw; go_simp <;> exact EP.out) hS0 ?_
    simp only [Act.put, List.setIfInBounds_toArray, List.set_cons_zero, List.set_cons_succ]
    refine take_at 9 (some 29) (.pointer (some ⟨b, off + i * 3, none⟩)) rfl rfl (by kernel_rfl) (by kernel_rfl) (by kernel_rfl) (fun _ _ _ h => h) (by rfl) (fun W hSw => by obtain ⟨q0, q1, q2, q3⟩ := hSw; go_simp <;> exact EP.out) hS0 ?_
    simp only [Act.put, List.setIfInBounds_toArray, List.set_cons_zero, List.set_cons_succ]
    refine take_at 10 (some 30) (.pointer (some ⟨b, off + i * 3 + 1, none⟩)) rfl rfl (by kernel_rfl) (by kernel_rfl) (by kernel_rfl) (fun _ _ _ h => h) (by rfl) (fun W hSw => by obtain ⟨q0, q1, q2, q3⟩ := hSw; go_simp <;> exact EP.out) hS0 ?_
    simp only [Act.put, List.setIfInBounds_toArray, List.set_cons_zero, List.set_cons_succ]
    refine take_at 11 (some 31) (.agg #[.bool s1, .int .i64 s2]) rfl rfl (by kernel_rfl) (by kernel_rfl) (by kernel_rfl) (fun _ _ _ h => h) (by rfl) (fun W hSw => by obtain ⟨q0, q1, q2, q3⟩ := hSw; go_simp <;> exact EP.out) hS0 ?_
    simp only [Act.put, List.setIfInBounds_toArray, List.set_cons_zero, List.set_cons_succ]
    refine wpAnyH_ready (rs := [12]) (by kernel_rfl) (by simp) ?_
    refine AllReadyH.cons rfl (fun K hK => ?_) AllReadyH.nil
    go_simp
    refine (hri _).mono ?_
    rintro e w2 ⟨rfl, hb2⟩
    have hb2c := Below.chain hbd hb2
    obtain ⟨y0, y1, y2, y3⟩ := HZ.out _ hb2c
    have hS2 := (⟨y0, y1, y2, y3⟩ : (fun W : World => W.cell? ⟨b, off + i * 3 + 1, none⟩ = some (Value.bool s1) ∧ W.cell? ⟨b, off + i * 3 + 2, none⟩ = some (Value.int .i64 s2) ∧ W.cell? ⟨b, off + p * 3 + 1, none⟩ = some (Value.bool t1) ∧ W.cell? ⟨b, off + p * 3 + 2, none⟩ = some (Value.int .i64 t2)) w2)
    refine hK.out _ _ hS2 (fun _ => ?_)
    clear hK K
    have hx3 := Box.new w2 fo fn
    have hb3 := bal hb2c (.cells #[.bool fo, .int .i64 fn] 33)
    have ho3 := (hod.later hb2).later (bal (Below.refl _ _) (.cells #[.bool fo, .int .i64 fn] 33))
    have hX3 := (hXd.later hb2).later (bal (Below.refl _ _) (.cells #[.bool fo, .int .i64 fn] 33))
    obtain ⟨u0, u1, u2, u3⟩ := HZ.out _ hb3
    refine wpAnyH_ready (rs := [13]) (by kernel_rfl) (by simp) ?_
    refine AllReadyH.cons rfl (fun K hK => ?_) AllReadyH.nil
    go_simp
    have hS3 := (⟨u0, u1, u2, u3⟩ : (fun W : World => W.cell? ⟨b, off + i * 3 + 1, none⟩ = some (Value.bool s1) ∧ W.cell? ⟨b, off + i * 3 + 2, none⟩ = some (Value.int .i64 s2) ∧ W.cell? ⟨b, off + p * 3 + 1, none⟩ = some (Value.bool t1) ∧ W.cell? ⟨b, off + p * 3 + 2, none⟩ = some (Value.int .i64 t2)) (w2.alloc (.cells #[.bool fo, .int .i64 fn] 33)))
    refine hK.out _ _ hS3 (fun _ => ?_)
    clear hK K
    have hsz : w.heap.size + 1 ≤ (w2.alloc (.cells #[.bool fo, .int .i64 fn] 33)).heap.size := by have := hX3.lt; omega
    refine wpAnyH_ready (rs := [14]) (by kernel_rfl) (by simp) ?_
    refine AllReadyH.cons rfl (fun K hK => ?_) AllReadyH.nil
    refine step_append _ _ (some 34) 50 rfl rfl (by rfl) (w.heap.size + 1) 33 i0 (.agg #[.bool false, .int .i64 0]) 2 16 Tryz.underlying50 hi hz0 hz1 hz2 zeroN (by decide) vd _ _ rfl ho3 ⟨w2.heap.size, 0, none⟩ 1 1 (cellsN [(fo, fn)]) rfl rfl (fun q u hu => Box.cellsN (x := (fo, fn)) hx3 q u hu) (cellsN_one _) (by unfold maxLen; omega) (by omega) hsz ?_
    intro v4 w4 ho4 hg4
    have hX4 := hX3.kept hg4 (fun e => by have := (World.ownsRow.lt ho3 _ e.symm).1; omega)
    have hb4 := hb3.grown hg4 hb3.size (fun k hk => by have := (World.ownsRow.lt ho3 k hk).1; omega)
    obtain ⟨u0, u1, u2, u3⟩ := HZ.out _ hb4
    have hS4 := (⟨u0, u1, u2, u3⟩ : (fun W : World => W.cell? ⟨b, off + i * 3 + 1, none⟩ = some (Value.bool s1) ∧ W.cell? ⟨b, off + i * 3 + 2, none⟩ = some (Value.int .i64 s2) ∧ W.cell? ⟨b, off + p * 3 + 1, none⟩ = some (Value.bool t1) ∧ W.cell? ⟨b, off + p * 3 + 2, none⟩ = some (Value.int .i64 t2)) w4)
    refine hK.out _ _ hS4 (fun _ => ?_)
    clear hK K
    refine take_at 15 (some 4) (v4) rfl rfl (by kernel_rfl) (by kernel_rfl) (by kernel_rfl) (fun _ _ _ h => h) (by rfl) (fun W hSw => by obtain ⟨q0, q1, q2, q3⟩ := hSw; go_simp <;> exact EP.out) hS4 ?_
    simp only [Act.put, List.setIfInBounds_toArray, List.set_cons_zero, List.set_cons_succ]
    refine wpAnyH_done (by kernel_rfl) ?_ _
    refine NoPanic.normal ?_
    go_wp2
    go_roundw
    case rel => exact ⟨i, i + 1, _, _, ⟨rfl, hi1, HD1.out⟩, by go_num, rfl, OwnN.snoc ho4, hX4, hb4⟩
    case measure => simp [intOf]; omega
   ·
    have hd : decide ((i : Int) < (n : Int)) = false := decide_eq_false (by omega)
    obtain rfl : i = n := by omega
    have hDr := HRD.out p (by omega)
    rw [← HP.out.2.2] at hDr
    have HIQ : Hid (incP l = fSum (cnts D)) := by show _ = _; rw [HIP.out, HP.out.2.2, show i - 1 = p by omega]
    obtain ⟨ao, cp, rfl, hns⟩ := ho.slice
    have hsu := fun W hW => sum_any ao D.length cp D W (by omega) hW hDr
    have HOV : Hid (ov (incP l) = ov (fSum (cnts D)) ∧ nn (incP l) = nn (fSum (cnts D))) := by rw [HIQ.out]; exact ⟨rfl, rfl⟩
    generalize ov (fSum (cnts D)) = fo at *
    generalize nn (fSum (cnts D)) = fn at *
    generalize D.length = dn at *
    clear hDl hpi hin HP
    go_wp2_with fail
    refine (hsu _ hns).mono ?_
    rintro e w1 ⟨rfl, hb1⟩
    have hx1 := hX.later hb1
    obtain ⟨c0, c1, g0, g1⟩ := id hx1
    obtain ⟨p0, p1, _, _⟩ := hx1.put (p := fo) (m := fn)
    go_wp2
    exact bodyPost_ret (v := .tuple #[.agg #[.bool fo, .int .i64 fn], .bool true]) (by simp [results, Tryz.results94, go_sem, p0, p1]) rfl ⟨by rw [HOV.out.1, HOV.out.2], put2 (Below.chain hb hb1) (Nat.le_refl _) _ _⟩
end Go.Proofs.YtjgckfcocmhnhaaGreatDoor.Rn
