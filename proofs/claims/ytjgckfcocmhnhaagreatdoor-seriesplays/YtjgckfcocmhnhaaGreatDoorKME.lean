/- Texts that the others lean on. -/
import Derived.Test.YtjgckfcocmhnhaaGreatDoorKMA
import Derived.Test.YtjgckfcocmhnhaaGreatDoorKMB
import Derived.BigRegion
import Derived.BigQuiet
namespace Go.Proofs.YtjgckfcocmhnhaaGreatDoor.Ex
open Go.RowKit
theorem grown_set (W : World) (b o : Nat) (v : Value) : W.grownBy (W.setCell ⟨b, o, none⟩ v) (some b) := ⟨rfl, rfl, rfl, by simp [World.setCell], fun k _ hne => Below.heap_setCell _ _ _ _ (fun e => hne (by rw [e]))⟩
theorem grown_below {w w' : World} (h : Below w.heap.size w w') (row : Option Nat) : w.grownBy w' row := ⟨h.os, h.tape, h.output, h.size, fun k hk _ => h.block k hk⟩
theorem grown_cell {w w' : World} {row : Option Nat} (hg : w.grownBy w' row) {b o : Nat} {v : Value} (h : w.cell? ⟨b, o, none⟩ = some v) (hne : some b ≠ row) : w'.cell? ⟨b, o, none⟩ = some v := hg.cell h hne
theorem grown_frozen {w w' : World} {row : Option Nat} (hg : w.grownBy w' row) {b o : Nat} (hb : b < w.heap.size) (h : w.frozen? ⟨b, o, none⟩ = false) (hne : some b ≠ row) : w'.frozen? ⟨b, o, none⟩ = false :=
 (World.frozen?_of_block (a := ⟨b, o, none⟩) (hg.block b hb hne)).trans h
theorem grown_above {B b : Nat} {a w w' : World} (h : Below B a w) (hg : w.grownBy w' (some b)) (hB : B ≤ w.heap.size) (hb : B ≤ b) : Below B a w' := h.grown hg hB (fun k hk => by cases hk; exact hb)
/-- A sample: its time, and its value's two cells. -/
abbrev Smp := Int × Bool × Int
abbrev sv (s : Smp) : Value := .agg #[.int .i64 s.1, .bool s.2.1, .int .i64 s.2.2]
def s0 : Smp := (0, false, 0)
structure Rg (w : World) (b : Nat) (f : Nat → Smp) (o c : Nat) (k now : Int) (g : Bool) : Prop where
 ct : ∀ j, j < 100 → w.cell? ⟨b, j * 3, none⟩ = some (.int .i64 (f j).1)
 cv : ∀ j, j < 100 → w.cell? ⟨b, j * 3 + 1, none⟩ = some (.bool (f j).2.1)
 cn : ∀ j, j < 100 → w.cell? ⟨b, j * 3 + 2, none⟩ = some (.int .i64 (f j).2.2)
 co : w.cell? ⟨b, 300, none⟩ = some (.int .i64 o)
 cc : w.cell? ⟨b, 301, none⟩ = some (.int .i64 c)
 ck : w.cell? ⟨b, 302, none⟩ = some (.int .i64 k)
 cw : w.cell? ⟨b, 303, none⟩ = some (.int .i64 now)
 cg : w.cell? ⟨b, 304, none⟩ = some (.bool g)
 fz : ∀ j, j < 305 → w.frozen? ⟨b, j, none⟩ = false
theorem Rg.lt {w : World} {b : Nat} {f : Nat → Smp} {o c : Nat} {k now : Int} {g : Bool} (h : Rg w b f o c k now g) : b < w.heap.size := World.block_lt_of_cell? _ _ h.co
theorem Rg.kept {w w' : World} {b : Nat} {f : Nat → Smp} {o c : Nat} {k now : Int} {g : Bool} (h : Rg w b f o c k now g) {row : Option Nat} (hg : w.grownBy w' row) (hne : some b ≠ row) : Rg w' b f o c k now g :=
 ⟨fun j hj => grown_cell hg (h.ct j hj) hne, fun j hj => grown_cell hg (h.cv j hj) hne, fun j hj => grown_cell hg (h.cn j hj) hne, grown_cell hg h.co hne, grown_cell hg h.cc hne, grown_cell hg h.ck hne, grown_cell hg h.cw hne, grown_cell hg h.cg hne, fun j hj => grown_frozen hg h.lt (h.fz j hj) hne⟩
theorem Rg.later {w w' : World} {b : Nat} {f : Nat → Smp} {o c : Nat} {k now : Int} {g : Bool} (h : Rg w b f o c k now g) (hb : Below w.heap.size w w') : Rg w' b f o c k now g := h.kept (grown_below hb none) (by simp)
/-! ### A new one -/
def many : Nat → List Value → List Value
 | 0, r => r
 | n + 1, r => .int .i64 0 :: .bool false :: .int .i64 0 :: many n r
/-- A new one's cells. -/
def zc43 : Array Value := (many 100 [.int .i64 0, .int .i64 0, .int .i64 0, .int .i64 0, .bool false]).toArray
set_option maxRecDepth 100000 in
theorem zv43 (w : World) : (zeroValue 163).run Tryz.prog w = .ok (.agg zc43) w := by kernel_rfl
theorem zs43 : zc43.size = 305 := by kernel_rfl
theorem cellsR_eq (k : Int) (g : Bool) : (zc43.setIfInBounds 302 (.int .i64 k)).setIfInBounds 304 (.bool g) = (many 100 [.int .i64 0, .int .i64 0, .int .i64 k, .int .i64 0, .bool g]).toArray := by kernel_rfl
theorem many_at : ∀ (n j : Nat) (r : List Value), j < n → (many n r)[j * 3]? = some (.int .i64 0) ∧ (many n r)[j * 3 + 1]? = some (.bool false) ∧ (many n r)[j * 3 + 2]? = some (.int .i64 0)
 | 0, _, _, h => absurd h (Nat.not_lt_zero _)
 | n + 1, 0, r, _ => ⟨rfl, rfl, rfl⟩
 | n + 1, j + 1, r, h => by
  obtain ⟨h0, h1, h2⟩ := many_at n j r (by omega)
  rw [show (j + 1) * 3 = j * 3 + 3 by omega]
  exact ⟨h0, h1, h2⟩
theorem Rg.new (w : World) (k : Int) (g : Bool) : Rg (w.alloc (.cells ((zc43.setIfInBounds 302 (.int .i64 k)).setIfInBounds 304 (.bool g)) 163)) w.heap.size (fun _ => s0) 0 0 k 0 g := by
 have hc : ∀ j v, ((zc43.setIfInBounds 302 (.int .i64 k)).setIfInBounds 304 (.bool g))[j]? = some v → (w.alloc (.cells ((zc43.setIfInBounds 302 (.int .i64 k)).setIfInBounds 304 (.bool g)) 163)).cell? ⟨w.heap.size, j, none⟩ = some v := fun j v h => (World.cell?_alloc_new w _ _ j).trans h
 have hm : ∀ j : Nat, ((zc43.setIfInBounds 302 (.int .i64 k)).setIfInBounds 304 (.bool g))[j]? = (many 100 [.int .i64 0, .int .i64 0, .int .i64 k, .int .i64 0, .bool g])[j]? := fun j => by rw [cellsR_eq, List.getElem?_toArray]
 refine ⟨fun j hj => hc _ _ ?_, fun j hj => hc _ _ ?_, fun j hj => hc _ _ ?_, hc _ _ ((hm _).trans rfl), hc _ _ ((hm _).trans rfl), hc _ _ ((hm _).trans rfl), hc _ _ ((hm _).trans rfl), hc _ _ ((hm _).trans rfl), fun j _ => by simp [go_sem]⟩
 ·
  rw [hm]; exact (many_at 100 j _ hj).1
 ·
  rw [hm]; exact (many_at 100 j _ hj).2.1
 ·
  rw [hm]; exact (many_at 100 j _ hj).2.2
/-- How wide a window is. -/
def clamp (n : Int) : Int := if n < 1 then 1 else if 100 < n then 100 else n
theorem clamp_range (n : Int) : 1 ≤ clamp n ∧ clamp n ≤ 100 := by unfold clamp; split <;> (try split) <;> omega
set_option maxRecDepth 100000 in
set_option maxHeartbeats 1000000 in
theorem new_any (n : Int) (g : Bool) (w : World) : Calls Tryz.prog 117 #[.int .i64 n, .bool g] w fun e w' => e = .returned (.pointer (some ⟨w.heap.size, 0, none⟩)) ∧ Rg w' w.heap.size (fun _ => s0) 0 0 (clamp n) 0 g ∧ Below w.heap.size w w' := by
 have H : Hid (∀ k, Rg (w.alloc (.cells ((zc43.setIfInBounds 302 (.int .i64 k)).setIfInBounds 304 (.bool g)) 163)) w.heap.size (fun _ => s0) 0 0 k 0 g) := fun k => Rg.new w k g
 have hz := zv43 w
 have hs := zs43
 generalize zc43 = z at *
 rcases (by omega : n < 1 ∨ 100 < n ∨ (1 ≤ n ∧ n ≤ 100)) with h | h | ⟨h, h'⟩
 ·
  rw [show clamp n = 1 by unfold clamp; rw [if_pos h]]
  go_enter Tryz.func117, Tryz.ntmps117
  go_wp2_with fail <;> try omega
  go_ret
  first | exact ⟨rfl, H.out 1, bal (Below.refl _ _) _⟩ | (rw [show min (max n 1) 100 = (1 : Int) by omega]; exact ⟨rfl, H.out 1, bal (Below.refl _ _) _⟩)
 ·
  rw [show clamp n = 100 by unfold clamp; rw [if_neg (by omega), if_pos h]]
  go_enter Tryz.func117, Tryz.ntmps117
  go_wp2_with fail <;> try omega
  go_ret
  first | exact ⟨rfl, H.out 100, bal (Below.refl _ _) _⟩ | (rw [show min (max n 1) 100 = (100 : Int) by omega]; exact ⟨rfl, H.out 100, bal (Below.refl _ _) _⟩)
 ·
  rw [show clamp n = n by unfold clamp; rw [if_neg (by omega), if_neg (by omega)]]
  go_enter Tryz.func117, Tryz.ntmps117
  go_wp2_with fail <;> try omega
  all_goals go_ret
  all_goals first | exact ⟨rfl, H.out _, bal (Below.refl _ _) _⟩ | (rw [show min (max n 1) 100 = (n : Int) by omega]; exact ⟨rfl, H.out _, bal (Below.refl _ _) _⟩)
theorem place_any (b : Nat) (f : Nat → Smp) (o c : Nat) (k now : Int) (g : Bool) (i : Nat) (w : World) (h : Rg w b f o c k now g) (ho : o < 100) (hi : i ≤ 100) :
  Calls Tryz.prog 140 #[.pointer (some ⟨b, 0, none⟩), .int .i64 i] w fun e w' => e = .returned (.int .i64 ((o + i) % 100 : Nat)) ∧ w = w' := by
 have h1 := h.co
 have e1 : wrap64 ((o : Int) + i) = (o : Int) + i := by unfold wrap64; omega
 go_enter Tryz.func140, Tryz.ntmps140
 go_wp2
 go_ret
 exact ⟨ret_int (by omega), rfl⟩
set_option maxHeartbeats 1000000 in
theorem sample_any (b : Nat) (f : Nat → Smp) (o c : Nat) (k now : Int) (g : Bool) (i : Nat) (w : World) (h : Rg w b f o c k now g) (ho : o < 100) (hi : i ≤ 100) :
  Calls Tryz.prog 133 #[.pointer (some ⟨b, 0, none⟩), .int .i64 i] w fun e w' => e = .returned (sv (f ((o + i) % 100))) ∧ Below w.heap.size w w' := by
 have hb1 := bal (Below.refl _ w) (.cells #[.int .i64 0, .bool false, .int .i64 0] 35)
 have h1 := h.later hb1
 have hp := place_any b f o c k now g i
 have hx : (o + i) % 100 < 100 := by omega
 have H1 : Hid _ := h1
 generalize (o + i) % 100 = x at *
 obtain c0 := h1.ct x hx
 obtain c1 := h1.cv x hx
 obtain c2 := h1.cn x hx
 go_enter Tryz.func133, Tryz.ntmps133
 go_wp2_with fail
 go_region_with (go_at_call 140; refine (hp _ (H1.out.later (by first | exact Below.refl _ _ | exact (Below.refl _ _).drew)) ho hi).mono ?_; rintro e w' ⟨rfl, rfl⟩)
 go_wp2
 exact bodyPost_ret (v := sv (f x)) (by simp [results, Tryz.results133, go_sem]) rfl ⟨rfl, (bal (Below.refl _ _) _).drew⟩
end Go.Proofs.YtjgckfcocmhnhaaGreatDoor.Ex
namespace Go.Proofs.YtjgckfcocmhnhaaGreatDoor.Ex
open Go.RowKit
/-- A window's samples, in order, its width, its time. -/
structure Wf (l : List Smp) (k nw : Int) : Prop where
 k1 : 1 ≤ k ∧ k ≤ 100
 n1 : 0 ≤ nw ∧ nw ≤ 1000000
 so : l.Pairwise (fun a b => a.1 < b.1)
 at_ : ∀ s ∈ l, nw - k < s.1 ∧ s.1 ≤ nw ∧ 0 ≤ s.1
 rg : ∀ s ∈ l, R64 s.2.2
theorem count_sorted : ∀ (l : List Smp) (lo hi : Int), l.Pairwise (fun a b => a.1 < b.1) → (∀ s ∈ l, lo < s.1 ∧ s.1 ≤ hi) → lo ≤ hi → (l.length : Int) ≤ hi - lo
 | [], lo, hi, _, _, h => by simp; omega
 | a :: l, lo, hi, hp, ha, h => by
  rw [List.pairwise_cons] at hp
  have h1 := ha a List.mem_cons_self
  have := count_sorted l a.1 hi hp.2 (fun s hs => ⟨hp.1 s hs, (ha s (List.mem_cons_of_mem _ hs)).2⟩) h1.2
  rw [List.length_cons]
  omega
theorem Wf.len {l : List Smp} {k nw : Int} (h : Wf l k nw) : (l.length : Int) ≤ k := by
 have := count_sorted l (nw - k) nw h.so (fun s hs => ⟨(h.at_ s hs).1, (h.at_ s hs).2.1⟩) (by have := h.k1; omega)
 omega
theorem Wf.le {l : List Smp} {k nw : Int} (h : Wf l k nw) : l.length ≤ 100 := by
 have := h.len
 have := h.k1
 omega
theorem Wf.none {k nw : Int} (hk : 1 ≤ k ∧ k ≤ 100) (hn : 0 ≤ nw ∧ nw ≤ 1000000) : Wf [] k nw := ⟨hk, hn, List.Pairwise.nil, (by intro s h; cases h), (by intro s h; cases h)⟩
/-- What is at most t goes, from the oldest one on. -/
def fg (t : Int) : List Smp → List Smp
 | [] => []
 | s :: r => if s.1 ≤ t then fg t r else s :: r
theorem fg_sub (t : Int) : ∀ l, (fg t l).Sublist l
 | [] => List.Sublist.refl _
 | s :: r => by
  unfold fg
  split
  ·
   exact (fg_sub t r).trans (List.sublist_cons_self s r)
  ·
   exact List.Sublist.refl _
theorem fg_above (t : Int) : ∀ l : List Smp, l.Pairwise (fun a b => a.1 < b.1) → ∀ s ∈ fg t l, t < s.1
 | [], _, s, h => by cases h
 | a :: r, hp, s, h => by
  rw [List.pairwise_cons] at hp
  unfold fg at h
  split at h
  ·
   exact fg_above t r hp.2 s h
  ·
   rcases List.mem_cons.1 h with rfl | h
   ·
    omega
   ·
    have := hp.1 s h
    omega
/-- What time it is, when it is told to be n. -/
def onw (nw n : Int) : Int := max nw (min n 1000000)
theorem onw_range {nw : Int} (n : Int) (h : 0 ≤ nw ∧ nw ≤ 1000000) : nw ≤ onw nw n ∧ 0 ≤ onw nw n ∧ onw nw n ≤ 1000000 := by unfold onw; omega
theorem Wf.advance {l : List Smp} {k nw : Int} (h : Wf l k nw) (n : Int) : Wf (fg (onw nw n - k) l) k (onw nw n) := by
 have hr := onw_range n h.n1
 refine ⟨h.k1, hr.2, h.so.sublist (fg_sub _ l), fun s hs => ?_, fun s hs => h.rg s ((fg_sub _ l).subset hs)⟩
 have h1 := fg_above _ l h.so s hs
 have h2 := h.at_ s ((fg_sub _ l).subset hs)
 omega
/-- A sample as it is told. -/
def nrm (s : Smp) : Smp := (s.1, ov (cnt s.2.1 s.2.2), nn (cnt s.2.1 s.2.2))
def lst (l : List Smp) : Smp := l.getD (l.length - 1) s0
/-- Why a sample is none of a window's, or 0. -/
def adE (l : List Smp) (k nw : Int) (t : Int) : Int := if t < 0 ∨ nw < t ∨ t ≤ nw - k then 152 else if l ≠ [] ∧ t ≤ (lst l).1 then 150 else 0
def adL (l : List Smp) (k nw : Int) (s : Smp) : List Smp := if adE l k nw s.1 = 0 then l ++ [nrm s] else l
theorem lst_snoc (l : List Smp) (s : Smp) : lst (l ++ [s]) = s := by
 unfold lst
 rw [List.length_append, List.length_singleton, Nat.add_sub_cancel, List.getD_eq_getElem?_getD, List.getElem?_append_right (Nat.le_refl _), Nat.sub_self]
 rfl
theorem lst_mem {l : List Smp} (h : l ≠ []) : lst l ∈ l := by
 have hp := List.length_pos_iff.2 h
 unfold lst
 rw [List.getD_eq_getElem?_getD, List.getElem?_eq_getElem (by omega)]
 exact List.getElem_mem _
theorem lst_last {l : List Smp} (hp : l.Pairwise (fun a b => a.1 < b.1)) : ∀ s ∈ l, s.1 ≤ (lst l).1 := by
 rcases List.eq_nil_or_concat l with rfl | ⟨r, x, rfl⟩
 ·
  intro s h; cases h
 ·
  intro s hs
  rw [List.concat_eq_append] at *
  rw [lst_snoc]
  rcases List.mem_append.1 hs with h | h
  ·
   exact Int.le_of_lt ((List.pairwise_append.1 hp).2.2 s h x List.mem_cons_self)
  ·
   rcases List.mem_cons.1 h with rfl | h
   ·
    exact Int.le_refl _
   ·
    cases h
theorem nrm_r64 (s : Smp) (h : R64 s.2.2) : R64 (nrm s).2.2 := by
 have := V.cnt (o := s.2.1) h.1 h.2
 exact ⟨by have := this.1; show _ ≤ nn _; omega, this.2⟩
theorem Wf.add {l : List Smp} {k nw : Int} (h : Wf l k nw) (s : Smp) (hs : R64 s.2.2) : Wf (adL l k nw s) k nw := by
 unfold adL
 split
 ·
  rename_i he
  unfold adE at he
  by_cases h1 : s.1 < 0 ∨ nw < s.1 ∨ s.1 ≤ nw - k
  ·
   rw [if_pos h1] at he; cases he
  ·
   rw [if_neg h1] at he
   by_cases h2 : l ≠ [] ∧ s.1 ≤ (lst l).1
   ·
    rw [if_pos h2] at he; cases he
   ·
    refine ⟨h.k1, h.n1, List.pairwise_append.2 ⟨h.so, List.pairwise_singleton _ _, fun a ha b hb => ?_⟩, fun x hx => ?_, fun x hx => ?_⟩
    ·
     obtain rfl : b = nrm s := by simpa using hb
     have hne : l ≠ [] := fun e => by rw [e] at ha; cases ha
     have h3 := lst_last h.so a ha
     have h4 : ¬ s.1 ≤ (lst l).1 := fun e => h2 ⟨hne, e⟩
     show a.1 < s.1
     omega
    ·
     rcases List.mem_append.1 hx with hx | hx
     ·
      exact h.at_ x hx
     ·
      obtain rfl : x = nrm s := by simpa using hx
      show nw - k < s.1 ∧ s.1 ≤ nw ∧ 0 ≤ s.1
      omega
    ·
     rcases List.mem_append.1 hx with hx | hx
     ·
      exact h.rg x hx
     ·
      obtain rfl : x = nrm s := by simpa using hx
      exact nrm_r64 s hs
 ·
  exact h
/-- The values of samples. -/
def vls (l : List Smp) : List (Bool × Int) := l.map (·.2)
def dltP (l : List Smp) : Option Int := fAdd (cnt (lst l).2.1 (lst l).2.2) (fNeg (cnt (l.getD 0 s0).2.1 (l.getD 0 s0).2.2))
end Go.Proofs.YtjgckfcocmhnhaaGreatDoor.Ex
namespace Go.Proofs.YtjgckfcocmhnhaaGreatDoor.Ex
open Go.RowKit
theorem set_at {w : World} {b q j : Nat} {u v : Value} (h : w.cell? ⟨b, q, none⟩ = some u) : (w.setCell ⟨b, q, none⟩ v).cell? ⟨b, j, none⟩ = if j = q then some v else w.cell? ⟨b, j, none⟩ := by
 by_cases e : j = q
 ·
  subst e
  rw [if_pos rfl, set_same h]
 ·
  rw [if_neg e, set_other (by intro x; injection x with _ x _; exact e x.symm)]
theorem set_ne {w : World} {b q j : Nat} {v : Value} (h : j ≠ q) : (w.setCell ⟨b, q, none⟩ v).cell? ⟨b, j, none⟩ = w.cell? ⟨b, j, none⟩ := set_other (by intro x; injection x with _ x _; exact h x.symm)
abbrev set3 (w : World) (b q : Nat) (s : Smp) : World := ((w.setCell ⟨b, q, none⟩ (.int .i64 s.1)).setCell ⟨b, q + 1, none⟩ (.bool s.2.1)).setCell ⟨b, q + 2, none⟩ (.int .i64 s.2.2)
theorem grown3 (w : World) (b q : Nat) (s : Smp) : w.grownBy (set3 w b q s) (some b) := ((grown_set _ _ _ _).trans (grown_set _ _ _ _)).trans (grown_set _ _ _ _)
theorem set3_other (w : World) (b q : Nat) (s : Smp) {j : Nat} (h : j < q ∨ q + 2 < j) : (set3 w b q s).cell? ⟨b, j, none⟩ = w.cell? ⟨b, j, none⟩ := by
 rw [set_ne (by omega), set_ne (by omega), set_ne (by omega)]
theorem set3_same {w : World} {b q : Nat} {u0 u1 u2 : Value} (s : Smp) (h0 : w.cell? ⟨b, q, none⟩ = some u0) (h1 : w.cell? ⟨b, q + 1, none⟩ = some u1) (h2 : w.cell? ⟨b, q + 2, none⟩ = some u2) :
  (set3 w b q s).cell? ⟨b, q, none⟩ = some (.int .i64 s.1) ∧ (set3 w b q s).cell? ⟨b, q + 1, none⟩ = some (.bool s.2.1) ∧ (set3 w b q s).cell? ⟨b, q + 2, none⟩ = some (.int .i64 s.2.2) := by
 refine ⟨?_, ?_, ?_⟩
 ·
  rw [set_ne (by omega), set_ne (by omega), set_same h0]
 ·
  rw [set_ne (by omega)]
  exact set_same ((set_ne (by omega)).trans h1)
 ·
  exact set_same ((set_ne (by omega)).trans ((set_ne (by omega)).trans h2))
theorem set3_frozen (w : World) (b q : Nat) (s : Smp) (a : Addr) : (set3 w b q s).frozen? a = w.frozen? a := by simp
theorem Rg.put {w : World} {b : Nat} {f : Nat → Smp} {o c : Nat} {k now : Int} {g : Bool} (h : Rg w b f o c k now g) {x : Nat} (hx : x < 100) (s : Smp) : Rg (set3 w b (x * 3) s) b (fun j => if j = x then s else f j) o c k now g := by
 obtain ⟨p0, p1, p2⟩ := set3_same s (h.ct x hx) (h.cv x hx) (h.cn x hx)
 refine ⟨fun j hj => ?_, fun j hj => ?_, fun j hj => ?_, (set3_other _ _ _ _ (by omega)).trans h.co, (set3_other _ _ _ _ (by omega)).trans h.cc, (set3_other _ _ _ _ (by omega)).trans h.ck, (set3_other _ _ _ _ (by omega)).trans h.cw, (set3_other _ _ _ _ (by omega)).trans h.cg, fun j hj => (set3_frozen _ _ _ _ _).trans (h.fz j hj)⟩
 all_goals
  by_cases e : j = x
  ·
   subst e
   rw [if_pos rfl]
   first | exact p0 | exact p1 | exact p2
  ·
   rw [if_neg e]
   first | exact (set3_other _ _ _ _ (by omega)).trans (h.ct j hj) | exact (set3_other _ _ _ _ (by omega)).trans (h.cv j hj) | exact (set3_other _ _ _ _ (by omega)).trans (h.cn j hj)
theorem Rg.setO {w : World} {b : Nat} {f : Nat → Smp} {o c : Nat} {k now : Int} {g : Bool} (h : Rg w b f o c k now g) (o' : Nat) : Rg (w.setCell ⟨b, 300, none⟩ (.int .i64 o')) b f o' c k now g :=
 ⟨fun j hj => (set_ne (by omega)).trans (h.ct j hj), fun j hj => (set_ne (by omega)).trans (h.cv j hj), fun j hj => (set_ne (by omega)).trans (h.cn j hj), set_same h.co, (set_ne (by omega)).trans h.cc, (set_ne (by omega)).trans h.ck, (set_ne (by omega)).trans h.cw, (set_ne (by omega)).trans h.cg, fun j hj => by simpa using h.fz j hj⟩
theorem Rg.setC {w : World} {b : Nat} {f : Nat → Smp} {o c : Nat} {k now : Int} {g : Bool} (h : Rg w b f o c k now g) (c' : Nat) : Rg (w.setCell ⟨b, 301, none⟩ (.int .i64 c')) b f o c' k now g :=
 ⟨fun j hj => (set_ne (by omega)).trans (h.ct j hj), fun j hj => (set_ne (by omega)).trans (h.cv j hj), fun j hj => (set_ne (by omega)).trans (h.cn j hj), (set_ne (by omega)).trans h.co, set_same h.cc, (set_ne (by omega)).trans h.ck, (set_ne (by omega)).trans h.cw, (set_ne (by omega)).trans h.cg, fun j hj => by simpa using h.fz j hj⟩
theorem Rg.setN {w : World} {b : Nat} {f : Nat → Smp} {o c : Nat} {k now : Int} {g : Bool} (h : Rg w b f o c k now g) (n : Int) : Rg (w.setCell ⟨b, 303, none⟩ (.int .i64 n)) b f o c k n g :=
 ⟨fun j hj => (set_ne (by omega)).trans (h.ct j hj), fun j hj => (set_ne (by omega)).trans (h.cv j hj), fun j hj => (set_ne (by omega)).trans (h.cn j hj), (set_ne (by omega)).trans h.co, (set_ne (by omega)).trans h.cc, (set_ne (by omega)).trans h.ck, set_same h.cw, (set_ne (by omega)).trans h.cg, fun j hj => by simpa using h.fz j hj⟩
/-- A sample in a block of its own. -/
structure BoxS (w : World) (b : Nat) (s : Smp) : Prop where
 c0 : w.cell? ⟨b, 0, none⟩ = some (.int .i64 s.1)
 c1 : w.cell? ⟨b, 1, none⟩ = some (.bool s.2.1)
 c2 : w.cell? ⟨b, 2, none⟩ = some (.int .i64 s.2.2)
 f0 : w.frozen? ⟨b, 0, none⟩ = false
 f1 : w.frozen? ⟨b, 1, none⟩ = false
 f2 : w.frozen? ⟨b, 2, none⟩ = false
theorem BoxS.new (w : World) (s : Smp) : BoxS (w.alloc (.cells #[.int .i64 s.1, .bool s.2.1, .int .i64 s.2.2] 35)) w.heap.size s := by
 constructor <;> simp [go_sem]
theorem BoxS.lt {w : World} {b : Nat} {s : Smp} (h : BoxS w b s) : b < w.heap.size := World.block_lt_of_cell? _ _ h.c0
theorem BoxS.kept {w w' : World} {b : Nat} {s : Smp} (h : BoxS w b s) {row : Option Nat} (hg : w.grownBy w' row) (hne : some b ≠ row) : BoxS w' b s :=
 ⟨grown_cell hg h.c0 hne, grown_cell hg h.c1 hne, grown_cell hg h.c2 hne, grown_frozen hg h.lt h.f0 hne, grown_frozen hg h.lt h.f1 hne, grown_frozen hg h.lt h.f2 hne⟩
theorem BoxS.later {w w' : World} {b : Nat} {s : Smp} (h : BoxS w b s) (hb : Below w.heap.size w w') : BoxS w' b s := h.kept (grown_below hb none) (by simp)
theorem BoxS.put {w : World} {b : Nat} {s : Smp} (h : BoxS w b s) (t : Smp) : BoxS (set3 w b 0 t) b t := by
 obtain ⟨p0, p1, p2⟩ := set3_same t h.c0 h.c1 h.c2
 exact ⟨p0, p1, p2, (set3_frozen _ _ _ _ _).trans h.f0, (set3_frozen _ _ _ _ _).trans h.f1, (set3_frozen _ _ _ _ _).trans h.f2⟩
theorem below3 {B : Nat} {a w : World} (h : Below B a w) {b : Nat} (hb : B ≤ b) (q : Nat) (s : Smp) : Below B a (set3 w b q s) := ((h.setCell (p := ⟨b, q, none⟩) hb _).setCell (p := ⟨b, q + 1, none⟩) hb _).setCell (p := ⟨b, q + 2, none⟩) hb _
/-- A window that holds these samples. -/
def Rl (w : World) (b : Nat) (l : List Smp) (k now : Int) (g : Bool) : Prop := ∃ f o, o < 100 ∧ l.length ≤ 100 ∧ Rg w b f o l.length k now g ∧ ∀ i, i < l.length → f ((o + i) % 100) = l.getD i s0
theorem Rl.kept {w w' : World} {b : Nat} {l : List Smp} {k now : Int} {g : Bool} (h : Rl w b l k now g) {row : Option Nat} (hg : w.grownBy w' row) (hne : some b ≠ row) : Rl w' b l k now g := by
 obtain ⟨f, o, ho, hl, hr, hf⟩ := h
 exact ⟨f, o, ho, hl, hr.kept hg hne, hf⟩
theorem Rl.later {w w' : World} {b : Nat} {l : List Smp} {k now : Int} {g : Bool} (h : Rl w b l k now g) (hb : Below w.heap.size w w') : Rl w' b l k now g := h.kept (grown_below hb none) (by simp)
theorem Rl.lt {w : World} {b : Nat} {l : List Smp} {k now : Int} {g : Bool} (h : Rl w b l k now g) : b < w.heap.size := by
 obtain ⟨f, o, ho, hl, hr, hf⟩ := h
 exact hr.lt
theorem Rl.new {w : World} {b : Nat} {k now : Int} {g : Bool} (h : Rg w b (fun _ => s0) 0 0 k now g) : Rl w b [] k now g := ⟨_, 0, by omega, by simp, h, fun i hi => absurd hi (Nat.not_lt_zero _)⟩
theorem Rl.push {w' : World} {b : Nat} {f : Nat → Smp} {o : Nat} {l : List Smp} {k now : Int} {g : Bool} {s : Smp} (ho : o < 100) (hl : l.length < 100) (hf : ∀ i, i < l.length → f ((o + i) % 100) = l.getD i s0)
  (h : Rg w' b (fun j => if j = (o + l.length) % 100 then s else f j) o (l.length + 1) k now g) : Rl w' b (l ++ [s]) k now g := by
 have e : (l ++ [s]).length = l.length + 1 := by simp
 refine ⟨_, o, ho, by omega, by rw [e]; exact h, fun i hi => ?_⟩
 rw [e] at hi
 by_cases h1 : i = l.length
 ·
  subst h1
  rw [if_pos rfl, List.getD_eq_getElem?_getD, List.getElem?_append_right (Nat.le_refl _), Nat.sub_self]
  rfl
 ·
  rw [if_neg (by omega), hf i (by omega), List.getD_eq_getElem?_getD, List.getD_eq_getElem?_getD, List.getElem?_append_left (by omega)]
theorem Rl.pop {w' : World} {b : Nat} {f : Nat → Smp} {o : Nat} {s : Smp} {l : List Smp} {k now : Int} {g : Bool} (hl : l.length + 1 ≤ 100) (hf : ∀ i, i < l.length + 1 → f ((o + i) % 100) = (s :: l).getD i s0)
  (h : Rg w' b f ((o + 1) % 100) l.length k now g) : Rl w' b l k now g := by
 refine ⟨f, (o + 1) % 100, by omega, by omega, h, fun i hi => ?_⟩
 rw [show ((o + 1) % 100 + i) % 100 = (o + (i + 1)) % 100 by omega, hf (i + 1) (by omega)]
 rfl
theorem Rl.drop {w' : World} {b : Nat} {f : Nat → Smp} {o : Nat} {s : Smp} {l : List Smp} {k now : Int} {g : Bool} (ho : o < 100) (hl : l.length + 1 ≤ 100) (hf : ∀ i, i < l.length + 1 → f ((o + i) % 100) = (l ++ [s]).getD i s0)
  (h : Rg w' b f o l.length k now g) : Rl w' b l k now g := by
 refine ⟨f, o, ho, by omega, h, fun i hi => ?_⟩
 rw [hf i (by omega), List.getD_eq_getElem?_getD, List.getD_eq_getElem?_getD, List.getElem?_append_left (by omega)]
end Go.Proofs.YtjgckfcocmhnhaaGreatDoor.Ex
namespace Go.Proofs.YtjgckfcocmhnhaaGreatDoor.Ex
open Go.RowKit
/-- Where a number stands, as a whole number: overflow above all. -/
def ky : Option Int → Int
 | none => 18446744073709551616
 | some n => n
/-- Who is told: the greatest by its value, the least by its value's negative. -/
def kg (g : Bool) (s : Smp) : Int := if g = true then ky (cnt s.2.1 s.2.2) else - ky (cnt s.2.1 s.2.2)
def thn (q : Smp → Int) : List Smp → List Smp
 | [] => []
 | s :: l => if l.any (fun x => decide (q s ≤ q x)) = true then thn q l else s :: thn q l
theorem thn_sub (q : Smp → Int) : ∀ l, (thn q l).Sublist l
 | [] => List.Sublist.refl _
 | s :: r => by
  unfold thn
  split
  ·
   exact (thn_sub q r).trans (List.sublist_cons_self s r)
  ·
   exact (thn_sub q r).cons_cons s
theorem thn_cons (q : Smp → Int) (s : Smp) (l : List Smp) : thn q (s :: l) = if l.any (fun x => decide (q s ≤ q x)) = true then thn q l else s :: thn q l := rfl
theorem thn_snoc (q : Smp → Int) (s : Smp) : ∀ l, thn q (l ++ [s]) = (thn q l).filter (fun x => decide (q s < q x)) ++ [s]
 | [] => rfl
 | a :: r => by
  have ih := thn_snoc q s r
  rw [List.cons_append, thn_cons, thn_cons, List.any_append, ih]
  by_cases h1 : r.any (fun x => decide (q a ≤ q x)) = true
  ·
   rw [h1, if_pos rfl, if_pos (by simp)]
  ·
   have h1' : r.any (fun x => decide (q a ≤ q x)) = false := by cases h : r.any (fun x => decide (q a ≤ q x)) <;> simp_all
   rw [h1']
   have e : ([s].any fun x => decide (q a ≤ q x)) = decide (q a ≤ q s) := by simp
   rw [e]
   by_cases h2 : q a ≤ q s
   ·
    rw [if_pos (by simp [h2]), if_neg (by simp), List.filter_cons, if_neg (by simp; omega)]
   ·
    rw [if_neg (by simp; omega), if_neg (by simp), List.filter_cons, if_pos (by simp; omega)]
    rfl
theorem thn_down (q : Smp → Int) : ∀ l, (thn q l).Pairwise (fun a b => q b < q a)
 | [] => List.Pairwise.nil
 | s :: r => by
  unfold thn
  split
  ·
   exact thn_down q r
  ·
   rename_i h
   refine List.pairwise_cons.2 ⟨fun b hb => ?_, thn_down q r⟩
   have h' : r.any (fun x => decide (q s ≤ q x)) = false := by simpa using h
   have := List.any_eq_false.1 h' b ((thn_sub q r).subset hb)
   simp at this
   exact this
theorem fg_none (t : Int) : ∀ l : List Smp, (∀ s ∈ l, t < s.1) → fg t l = l
 | [], _ => rfl
 | s :: r, h => by
  have := h s List.mem_cons_self
  unfold fg
  rw [if_neg (by omega)]
theorem thn_fg (q : Smp → Int) (t : Int) : ∀ l : List Smp, l.Pairwise (fun a b => a.1 < b.1) → fg t (thn q l) = thn q (fg t l)
 | [], _ => rfl
 | s :: r, hp => by
  rw [List.pairwise_cons] at hp
  have ih := thn_fg q t r hp.2
  by_cases h : s.1 ≤ t
  ·
   show _ = thn q (if s.1 ≤ t then fg t r else s :: r)
   rw [if_pos h, ← ih]
   show fg t (if _ then thn q r else s :: thn q r) = _
   split
   ·
    rfl
   ·
    show (if s.1 ≤ t then fg t (thn q r) else _) = _
    rw [if_pos h]
  ·
   have h1 : fg t (s :: r) = s :: r := by show (if s.1 ≤ t then fg t r else s :: r) = _; rw [if_neg h]
   rw [h1]
   refine fg_none t _ fun x hx => ?_
   rcases List.mem_cons.1 ((thn_sub q (s :: r)).subset hx) with e | e
   ·
    rw [e]; omega
   ·
    have := hp.1 x e; omega
theorem thn_nil {q : Smp → Int} {l : List Smp} : thn q l = [] ↔ l = [] := by
 rcases List.eq_nil_or_concat l with rfl | ⟨r, x, rfl⟩
 ·
  exact ⟨fun _ => rfl, fun _ => rfl⟩
 ·
  rw [List.concat_eq_append, thn_snoc]
  exact ⟨fun h => by simp at h, fun h => by simp at h⟩
theorem thn_lst (q : Smp → Int) (l : List Smp) : lst (thn q l) = lst l := by
 rcases List.eq_nil_or_concat l with rfl | ⟨r, x, rfl⟩
 ·
  rfl
 ·
  rw [List.concat_eq_append, thn_snoc, lst_snoc, lst_snoc]
/-- The first one left is the best. -/
theorem thn_best (q : Smp → Int) : ∀ l : List Smp, l ≠ [] → (thn q l).getD 0 s0 ∈ l ∧ ∀ x ∈ l, q x ≤ q ((thn q l).getD 0 s0)
 | [], h => absurd rfl h
 | s :: r, _ => by
  unfold thn
  split
  ·
   rename_i h
   obtain ⟨y, hy, hq⟩ := List.any_eq_true.1 h
   have hq' : q s ≤ q y := by simpa using hq
   obtain ⟨i1, i2⟩ := thn_best q r (fun e => by rw [e] at hy; cases hy)
   refine ⟨List.mem_cons_of_mem _ i1, fun x hx => ?_⟩
   rcases List.mem_cons.1 hx with e | e
   ·
    rw [e]; exact Int.le_trans hq' (i2 y hy)
   ·
    exact i2 x e
  ·
   rename_i h
   have h' : r.any (fun x => decide (q s ≤ q x)) = false := by simpa using h
   refine ⟨List.mem_cons_self, fun x hx => ?_⟩
   show q x ≤ q s
   rcases List.mem_cons.1 hx with e | e
   ·
    rw [e]; exact Int.le_refl _
   ·
    have := List.any_eq_false.1 h' x e
    simp at this
    omega
/-- Who is left ahead of one that comes last. -/
def kp (q : Smp → Int) (s : Smp) (r : List Smp) : List Smp := r.filter (fun x => decide (q s < q x))
theorem kp_pop {q : Smp → Int} {s x : Smp} {r : List Smp} (h : q x ≤ q s) : kp q s (r ++ [x]) = kp q s r := by
 unfold kp
 rw [List.filter_append]
 simp
 omega
theorem kp_all {q : Smp → Int} {s x : Smp} {r : List Smp} (hp : (r ++ [x]).Pairwise (fun a b => q b < q a)) (h : ¬ q x ≤ q s) : kp q s (r ++ [x]) = r ++ [x] := by
 unfold kp
 refine List.filter_eq_self.2 fun a ha => ?_
 rcases List.mem_append.1 ha with e | e
 ·
  have := (List.pairwise_append.1 hp).2.2 a e x List.mem_cons_self
  simp; omega
 ·
  obtain rfl : a = x := by simpa using e
  simp; omega
/-- How numbers are compared, by where they stand. -/
theorem cmp_ky {x y : Option Int} (hx : V x) (hy : V y) : (fCmp x y ≤ 0 ↔ ky x ≤ ky y) ∧ (0 ≤ fCmp x y ↔ ky y ≤ ky x) := by
 have h1 := hx.1
 have h2 := hx.2
 have h3 := hy.1
 have h4 := hy.2
 cases x with
 | none =>
  cases y with
  | none => exact ⟨⟨fun _ => Int.le_refl _, fun _ => by decide⟩, ⟨fun _ => Int.le_refl _, fun _ => by decide⟩⟩
  | some b =>
   simp only [nn] at h3 h4
   refine ⟨⟨fun h => absurd (show (1 : Int) ≤ 0 from h) (by decide), fun h => ?_⟩, ⟨fun _ => ?_, fun _ => (by decide : (0 : Int) ≤ 1)⟩⟩
   ·
    exfalso; simp only [ky] at h; omega
   ·
    simp only [ky]; omega
 | some a =>
  cases y with
  | none =>
   simp only [nn] at h1 h2
   refine ⟨⟨fun _ => ?_, fun _ => (by decide : (-1 : Int) ≤ 0)⟩, ⟨fun h => absurd (show (0 : Int) ≤ -1 from h) (by decide), fun h => ?_⟩⟩
   ·
    simp only [ky]; omega
   ·
    exfalso; simp only [ky] at h; omega
  | some b =>
   simp only [fCmp, ky]
   by_cases e : a = b
   ·
    rw [if_pos e]; omega
   ·
    rw [if_neg e]
    by_cases e2 : b < a
    ·
     rw [if_pos e2]; omega
    ·
     rw [if_neg e2]; omega
end Go.Proofs.YtjgckfcocmhnhaaGreatDoor.Ex
namespace Go.Proofs.YtjgckfcocmhnhaaGreatDoor.Ex
open Go.RowKit
theorem at_mono (l : List Smp) (b : Nat) (f : Nat → Smp) (o : Nat) (k now : Int) (g : Bool) (i : Nat) (w : World) (hr : Rg w b f o l.length k now g) (ho : o < 100) (hl : l.length ≤ 100) (hf : ∀ i, i < l.length → f ((o + i) % 100) = l.getD i s0) (hi : i < l.length) :
  Calls Tryz.prog 133 #[.pointer (some ⟨b, 0, none⟩), .int .i64 i] w fun e w' => e = .returned (sv (l.getD i s0)) ∧ Below w.heap.size w w' := by
 have h := sample_any b f o l.length k now g i w hr ho (by omega)
 rw [hf i hi] at h
 exact h
theorem at_any (b : Nat) (l : List Smp) (k now : Int) (g : Bool) (i : Nat) (w : World) (h : Rl w b l k now g) (hi : i < l.length) :
  Calls Tryz.prog 133 #[.pointer (some ⟨b, 0, none⟩), .int .i64 i] w fun e w' => e = .returned (sv (l.getD i s0)) ∧ Below w.heap.size w w' := by
 obtain ⟨f, o, ho, hl, hr, hf⟩ := h
 exact at_mono l b f o k now g i w hr ho hl hf hi
set_option maxHeartbeats 1000000 in
theorem last_any (b : Nat) (l : List Smp) (k now : Int) (g : Bool) (w : World) (h : Rl w b l k now g) (hn : l ≠ []) :
  Calls Tryz.prog 182 #[.pointer (some ⟨b, 0, none⟩)] w fun e w' => e = .returned (sv (lst l)) ∧ Below w.heap.size w w' := by
 have hb1 := bal (Below.refl _ w) (.cells #[.int .i64 0, .bool false, .int .i64 0] 35)
 have hR := h.later hb1
 obtain ⟨f, o, ho, hl, hr, hf⟩ := h
 have h1 := (hr.later hb1).cc
 cases hle : l with
 | nil => exact absurd hle hn
 | cons y ys =>
  rw [← hle]
  have hp : l.length = ys.length + 1 := by rw [hle]; rfl
  have hs := at_any b l k now g (l.length - 1) _ hR (by omega)
  rw [hp] at h1
  have e2 : l.length - 1 = ys.length := by omega
  rw [e2] at hs
  have HL : Hid (l.getD ys.length s0 = lst l) := by show _ = _; unfold lst; rw [e2]
  rw [HL.out] at hs
  have hm : ys.length < 100 := by omega
  have e3 : wrap64 ((ys.length + 1 : Nat) - 1 : Int) = (ys.length : Int) := by unfold wrap64; omega
  have hx := BoxS.new w s0
  generalize ys.length = m at *
  generalize lst l = s at *
  clear hf hR hr hle hp e2 hn
  have e4 : wrap64 (m : Int) = (m : Int) := by unfold wrap64; omega
  go_enter Tryz.func182, Tryz.ntmps182
  go_wp2_with fail
  refine hs.mono ?_
  rintro e w1 ⟨rfl, hb2⟩
  have hx2 := hx.later hb2
  obtain ⟨c0, c1, c2, f0, f1, f2⟩ := id hx2
  obtain ⟨d0, d1, d2, _, _, _⟩ := hx2.put s
  go_wp2
  exact bodyPost_ret (v := sv s) (by simp [results, Tryz.results182, go_sem, d0, d1, d2]) rfl ⟨rfl, below3 (Below.chain hb1 hb2) (Nat.le_refl _) 0 s⟩
theorem field_t (t : Int) (o : Bool) (n : Int) (w : World) : (Instr.field 35 (.agg #[.int .i64 t, .bool o, .int .i64 n]) 0).run Tryz.prog w = .ok (.int .i64 t) w := by kernel_rfl
theorem field_v (t : Int) (o : Bool) (n : Int) (w : World) : (Instr.field 35 (.agg #[.int .i64 t, .bool o, .int .i64 n]) 1).run Tryz.prog w = .ok (.agg #[.bool o, .int .i64 n]) w := by kernel_rfl
set_option maxHeartbeats 1000000 in
theorem get_any (b : Nat) (l : List Smp) (k now : Int) (g : Bool) (w : World) (h : Rl w b l k now g) :
  Calls Tryz.prog 118 #[.pointer (some ⟨b, 0, none⟩)] w fun e w' => e = .returned (.tuple #[.agg #[.bool (l.getD 0 s0).2.1, .int .i64 (l.getD 0 s0).2.2], .bool (!l.isEmpty)]) ∧ Below w.heap.size w w' := by
 obtain ⟨f, o, ho, hl, hr, hf⟩ := h
 have hfd := field_v
 have hb1 := bal (Below.refl _ w) (.cells #[.bool false, .int .i64 0] 33)
 have h1 := (hr.later hb1).cc
 have hs := sample_any b f o l.length k now g 0 _ (hr.later hb1) ho (by omega)
 cases l with
 | nil =>
  clear hs hf
  go_enter Tryz.func118, Tryz.ntmps118
  go_wp2
  exact bodyPost_ret (v := .tuple #[.agg #[.bool false, .int .i64 0], .bool false]) (by simp [results, Tryz.results118, go_sem]) rfl ⟨rfl, by first | exact hb1 | exact put2 hb1 (Nat.le_refl _) false 0⟩
 | cons s l =>
  rw [hf 0 (by simp)] at hs
  have e0 : (s :: l).getD 0 s0 = s := rfl
  rw [e0] at hs ⊢
  have h2 : (((s :: l).length : Int) == 0) = false := by simp; omega
  have hx := Box.new w false 0
  generalize (s :: l).length = c at *
  clear hf
  obtain ⟨st, so, sn⟩ := s
  go_enter Tryz.func118, Tryz.ntmps118
  go_wp2_with fail
  refine hs.mono ?_
  rintro e w1 ⟨rfl, hb2⟩
  have hx2 := hx.later hb2
  obtain ⟨c0, c1, g0, g1⟩ := id hx2
  obtain ⟨p0, p1, _, _⟩ := hx2.put (p := so) (m := sn)
  go_wp2
  exact bodyPost_ret (v := .tuple #[.agg #[.bool so, .int .i64 sn], .bool true]) (by simp [results, Tryz.results118, go_sem, p0, p1]) rfl ⟨rfl, put2 (Below.chain hb1 hb2) (Nat.le_refl _) so sn⟩
/-- How many a window in memory holds. -/
def cntW (w : World) (b : Nat) : Nat := match w.cell? ⟨b, 301, none⟩ with
 | some (.int _ i) => i.toNat
 | _ => 0
theorem Rg.cnt {w : World} {b : Nat} {f : Nat → Smp} {o c : Nat} {k now : Int} {g : Bool} (h : Rg w b f o c k now g) : cntW w b = c := by
 unfold cntW
 rw [h.cc]
 rfl
set_option maxHeartbeats 1000000 in
theorem forget_any (b : Nat) (l : List Smp) (k now : Int) (g : Bool) (t : Int) (w : World) (h : Rl w b l k now g) :
  Calls Tryz.prog 185 #[.pointer (some ⟨b, 0, none⟩), .int .i64 t] w fun e w' => e = .returned (.tuple #[]) ∧ Rl w' b (fg t l) k now g ∧ w.grownBy w' (some b) := by
 have hfd := field_t
 go_enter Tryz.func185, Tryz.ntmps185
 go_wp2_with fail
 go_loopw [] (fun wr => ∃ r, Rl wr b r k now g ∧ fg t r = fg t l ∧ w.grownBy wr (some b)) (fun wr => cntW wr b)
 case atStart => exact ⟨l, h, rfl, grown_below (Below.refl _ _) _⟩
 case round =>
  obtain ⟨r, hrl, hfg, hg⟩ := hrel
  obtain ⟨f, o, ho, hl, hr, hf⟩ := hrl
  have HG : Hid _ := hfg
  clear hfg
  have i1 := hr.cc
  cases r with
  | nil =>
   go_wp2
   go_end0
   exact ⟨rfl, by rw [← HG.out]; exact ⟨f, o, ho, hl, hr, hf⟩, hg⟩
  | cons s r =>
   have hm := hr.cnt
   have hs := at_mono (s :: r) b f o k now g 0 wr hr ho hl hf (by simp)
   have e0 : (s :: r).getD 0 s0 = s := rfl
   rw [e0] at hs
   have hl' : r.length + 1 ≤ 100 := hl
   have HF : Hid (∀ i, i < r.length + 1 → f ((o + i) % 100) = (s :: r).getD i s0) := hf
   clear hf hl e0
   have hr' : Rg wr b f o (r.length + 1) k now g := hr
   have hm' : cntW wr b = r.length + 1 := hm
   clear i1 hr hm
   generalize hmm : r.length = m at *
   have HM : Hid _ := hmm
   clear hmm
   have i1' : wr.cell? ⟨b, 301, none⟩ = some (.int .i64 ((m : Int) + 1)) := hr'.cc
   have h2 : decide ((0 : Int) < (m : Int) + 1) = true := decide_eq_true (by omega)
   by_cases ht : s.1 ≤ t
   ·
    have ht' : decide (s.1 ≤ t) = true := decide_eq_true ht
    have HN : Hid (fg t r = fg t l) := by rw [← HG.out]; show fg t r = if s.1 ≤ t then fg t r else s :: r; rw [if_pos ht]
    clear HG ht
    go_wp2_with fail
    refine hs.mono ?_
    rintro e w1 ⟨rfl, hb1⟩
    have hr1 := hr'.later hb1
    go_wp2_with fail
    have e1 : wrap64 ((m : Int) + 1 - 1) = (m : Int) := by unfold wrap64; omega
    have e2 : wrap64 (m : Int) = (m : Int) := by unfold wrap64; omega
    have hpl := place_any b f o (m + 1) k now g 1 w1 hr1 ho (by omega)
    have hx : (o + 1) % 100 < 100 := by omega
    generalize hxx : (o + 1) % 100 = x at *
    have HX : Hid _ := hxx
    clear hxx
    refine hpl.mono ?_
    rintro e w2 ⟨rfl, rfl⟩
    have hr2 := hr1.setO x
    have hg2 := (hg.trans (grown_below hb1 (some b))).trans (grown_set w1 b 300 (.int .i64 x))
    have j0 := hr1.co
    have j1 : w1.cell? ⟨b, 301, none⟩ = some (.int .i64 ((m : Int) + 1)) := hr1.cc
    have j2 := hr1.fz 300 (by omega)
    have j3 := hr1.fz 301 (by omega)
    have j4 : (w1.setCell ⟨b, 300, none⟩ (.int .i64 x)).cell? ⟨b, 301, none⟩ = some (.int .i64 ((m : Int) + 1)) := hr2.cc
    go_wp2
    go_roundw
    case rel => exact ⟨r, Rl.pop (by rw [HM.out]; exact hl') (by rw [HM.out]; exact HF.out) (by rw [HX.out, HM.out]; exact hr2.setC m), HN.out, hg2.trans (grown_set _ _ _ _)⟩
    case measure =>
     rw [(hr2.setC m).cnt, hm']
     omega
   ·
    have ht' : decide (s.1 ≤ t) = false := decide_eq_false ht
    have HN : Hid (s :: r = fg t l) := by rw [← HG.out]; show s :: r = if s.1 ≤ t then fg t r else s :: r; rw [if_neg ht]
    clear HG ht
    go_wp2_with fail
    refine hs.mono ?_
    rintro e w1 ⟨rfl, hb1⟩
    go_wp2
    go_end0
    exact ⟨rfl, by rw [← HN.out]; exact ⟨f, o, ho, by show r.length + 1 ≤ 100; rw [HM.out]; exact hl', by show Rg _ b f o (r.length + 1) k now g; rw [HM.out]; exact hr'.later hb1, by show ∀ i, i < r.length + 1 → _; rw [HM.out]; exact HF.out⟩, hg.trans (grown_below hb1 _)⟩
end Go.Proofs.YtjgckfcocmhnhaaGreatDoor.Ex
namespace Go.Proofs.YtjgckfcocmhnhaaGreatDoor.Ex
open Go.RowKit
theorem place_cell (b o i : Nat) (w : World) (h1 : w.cell? ⟨b, 300, none⟩ = some (.int .i64 o)) (ho : o < 100) (hi : i ≤ 100) :
  Calls Tryz.prog 140 #[.pointer (some ⟨b, 0, none⟩), .int .i64 i] w fun e w' => e = .returned (.int .i64 ((o + i) % 100 : Nat)) ∧ w = w' := by
 have e1 : wrap64 ((o : Int) + i) = (o : Int) + i := by unfold wrap64; omega
 go_enter Tryz.func140, Tryz.ntmps140
 go_wp2
 go_ret
 exact ⟨ret_int (by omega), rfl⟩
set_option maxHeartbeats 1000000 in
theorem beat_G (p : Nat) (s : Smp) (t : Int) (o : Bool) (n : Int) (w : World) (h : BoxS w p s) (hn : R64 n) (hs : R64 s.2.2) :
  Calls Tryz.prog 187 #[.agg #[.bool o, .int .i64 n], .pointer (some ⟨p, 0, none⟩)] w fun e w' => e = .returned (.bool (decide (kg true (t, o, n) ≤ kg true s))) ∧ Below w.heap.size w w' := by
 obtain ⟨st, so, sn⟩ := s
 have hs : R64 sn := hs
 have hb1 := bal (Below.refl _ w) (.cells #[.bool o, .int .i64 n] 33)
 obtain ⟨c0, c1, c2, _, _, _⟩ := h.later hb1
 have hy := Box.new w o n
 obtain ⟨d0, d1, _, _⟩ := id hy
 have hc := fun W => cmp_any o so n sn W hn hs
 have HK : Hid (decide (fCmp (cnt o n) (cnt so sn) ≤ 0) = decide (kg true (t, o, n) ≤ kg true (st, so, sn))) := by
  have hv := cmp_ky (V.cnt (o := o) hn.1 hn.2) (V.cnt (o := so) hs.1 hs.2)
  show decide _ = decide ((if true = true then ky (cnt o n) else - ky (cnt o n)) ≤ (if true = true then ky (cnt so sn) else - ky (cnt so sn)))
  rw [if_pos rfl, if_pos rfl]
  exact decide_eq_decide.2 hv.1
 generalize fCmp (cnt o n) (cnt so sn) = c at *
 go_enter Tryz.func187, Tryz.ntmps187
 go_wp2_with fail
 refine (hc _).mono ?_
 rintro e w1 ⟨rfl, hb2⟩
 go_wp2
 go_ret
 exact ⟨by rw [← HK.out]; rfl, Below.chain hb1 hb2⟩
set_option maxHeartbeats 1000000 in
theorem beat_L (p : Nat) (s : Smp) (t : Int) (o : Bool) (n : Int) (w : World) (h : BoxS w p s) (hn : R64 n) (hs : R64 s.2.2) :
  Calls Tryz.prog 188 #[.agg #[.bool o, .int .i64 n], .pointer (some ⟨p, 0, none⟩)] w fun e w' => e = .returned (.bool (decide (kg false (t, o, n) ≤ kg false s))) ∧ Below w.heap.size w w' := by
 obtain ⟨st, so, sn⟩ := s
 have hs : R64 sn := hs
 have hb1 := bal (Below.refl _ w) (.cells #[.bool o, .int .i64 n] 33)
 obtain ⟨c0, c1, c2, _, _, _⟩ := h.later hb1
 have hy := Box.new w o n
 obtain ⟨d0, d1, _, _⟩ := id hy
 have hc := fun W => cmp_any o so n sn W hn hs
 have HK : Hid (decide (fCmp (cnt o n) (cnt so sn) ≥ 0) = decide (kg false (t, o, n) ≤ kg false (st, so, sn))) := by
  have hv := cmp_ky (V.cnt (o := o) hn.1 hn.2) (V.cnt (o := so) hs.1 hs.2)
  show decide _ = decide ((if false = true then ky (cnt o n) else - ky (cnt o n)) ≤ (if false = true then ky (cnt so sn) else - ky (cnt so sn)))
  rw [if_neg (by decide), if_neg (by decide)]
  exact decide_eq_decide.2 (hv.2.trans ⟨fun h => by omega, fun h => by omega⟩)
 generalize fCmp (cnt o n) (cnt so sn) = c at *
 go_enter Tryz.func188, Tryz.ntmps188
 go_wp2_with fail
 refine (hc _).mono ?_
 rintro e w1 ⟨rfl, hb2⟩
 go_wp2
 go_ret
 exact ⟨by rw [← HK.out]; rfl, Below.chain hb1 hb2⟩
end Go.Proofs.YtjgckfcocmhnhaaGreatDoor.Ex
namespace Go.Proofs.YtjgckfcocmhnhaaGreatDoor.Ex
open Go.RowKit
theorem wI {x : Int} (h0 : -9223372036854775808 ≤ x) (h1 : x ≤ 9223372036854775807) : IntKind.i64.wrap x = x := by rw [IntKind.wrap_i64]; omega
theorem Rl.time {w : World} {b : Nat} {l : List Smp} {k now : Int} {g : Bool} (h : Rl w b l k now g) : w.cell? ⟨b, 303, none⟩ = some (.int .i64 now) := by
 obtain ⟨f, o, ho, hl, hr, hf⟩ := h
 exact hr.cw
theorem Rl.width {w : World} {b : Nat} {l : List Smp} {k now : Int} {g : Bool} (h : Rl w b l k now g) : w.cell? ⟨b, 302, none⟩ = some (.int .i64 k) := by
 obtain ⟨f, o, ho, hl, hr, hf⟩ := h
 exact hr.ck
set_option maxHeartbeats 1000000 in
theorem advance_any (b : Nat) (l : List Smp) (k now n : Int) (g : Bool) (w : World) (h : Rl w b l k now g) (hk : 1 ≤ k ∧ k ≤ 100) (hn : 0 ≤ now ∧ now ≤ 1000000) :
  Calls Tryz.prog 181 #[.pointer (some ⟨b, 0, none⟩), .int .i64 n] w fun e w' => e = .returned (.tuple #[]) ∧ Rl w' b (fg (onw now n - k) l) k (onw now n) g ∧ w.grownBy w' (some b) := by
 obtain ⟨f, o, ho, hl, hr, hf⟩ := h
 have H2 : Rl (w.setCell ⟨b, 303, none⟩ (.int .i64 (onw now n))) b l k (onw now n) g := ⟨f, o, ho, hl, hr.setN _, hf⟩
 have h303 := hr.cw
 have h302 := hr.ck
 have f303 := hr.fz 303 (by omega)
 have k302 := (hr.setN (onw now n)).ck
 have hrg := onw_range n hn
 have e1 : wrap64 (onw now n - k) = onw now n - k := by unfold wrap64; omega
 have hfo := forget_any b l k (onw now n) g (onw now n - k) _ (H2.later (Below.refl _ _).drew)
 have hg := grown_set w b 303 (.int .i64 (onw now n))
 have k303 : (w.setCell ⟨b, 303, none⟩ (.int .i64 (onw now n))).cell? ⟨b, 303, none⟩ = some (.int .i64 (onw now n)) := (hr.setN (onw now n)).cw
 have HO : Hid (onw now n = max now (min n 1000000)) := rfl
 unfold onw at H2 hrg e1 hfo hg k303 k302
 clear hr hf hn
 go_enter Tryz.func181, Tryz.ntmps181
 go_wp2_with fail
 generalize max now (min n 1000000) = nw at *
 generalize w.setCell ⟨b, 303, none⟩ (.int .i64 nw) = wa at *
 have k303d : wa.drew.cell? ⟨b, 303, none⟩ = some (.int .i64 nw) := k303
 have k302d : wa.drew.cell? ⟨b, 302, none⟩ = some (.int .i64 k) := k302
 have E1 : Hid (IntKind.i64.wrap (nw - k) = nw - k) := wI (by omega) (by omega)
 have hS0 : (fun W : World => W.cell? ⟨b, 303, none⟩ = some (Value.int .i64 nw) ∧ W.cell? ⟨b, 302, none⟩ = some (Value.int .i64 k)) _ := ⟨k303d, k302d⟩
 refine wp_region_noPanic ?_
 refine wp_region_held_drew (S := fun W : World => W.cell? ⟨b, 303, none⟩ = some (Value.int .i64 nw) ∧ W.cell? ⟨b, 302, none⟩ = some (Value.int .i64 k)) (by kernel_rfl) hS0 (fun _ => ?_)
 refine take_at 0 (some 14) (.pointer (some ⟨b, 0, none⟩)) rfl rfl (by kernel_rfl) (by kernel_rfl) (by kernel_rfl) (fun _ _ _ h => h) (by rfl) (fun W hSw => by obtain ⟨q1, q2⟩ := hSw; go_simp) hS0 ?_
 simp only [Act.put, List.setIfInBounds_toArray, List.set_cons_zero, List.set_cons_succ]
 refine take_at 1 (some 15) (.pointer (some ⟨b, 0, none⟩)) rfl rfl (by kernel_rfl) (by kernel_rfl) (by kernel_rfl) (fun _ _ _ h => h) (by rfl) (fun W hSw => by obtain ⟨q1, q2⟩ := hSw; go_simp) hS0 ?_
 simp only [Act.put, List.setIfInBounds_toArray, List.set_cons_zero, List.set_cons_succ]
 refine take_at 2 (some 16) (.pointer (some ⟨b, 0, none⟩)) rfl rfl (by kernel_rfl) (by kernel_rfl) (by kernel_rfl) (fun _ _ _ h => h) (by rfl) (fun W hSw => by obtain ⟨q1, q2⟩ := hSw; go_simp) hS0 ?_
 simp only [Act.put, List.setIfInBounds_toArray, List.set_cons_zero, List.set_cons_succ]
 refine take_at 3 (some 17) (.pointer (some ⟨b, 0, none⟩)) rfl rfl (by kernel_rfl) (by kernel_rfl) (by kernel_rfl) (fun _ _ _ h => h) (by rfl) (fun W hSw => by obtain ⟨q1, q2⟩ := hSw; go_simp) hS0 ?_
 simp only [Act.put, List.setIfInBounds_toArray, List.set_cons_zero, List.set_cons_succ]
 refine take_at 4 (some 18) (.pointer (some ⟨b, 0, none⟩)) rfl rfl (by kernel_rfl) (by kernel_rfl) (by kernel_rfl) (fun _ _ _ h => h) (by rfl) (fun W hSw => by obtain ⟨q1, q2⟩ := hSw; go_simp) hS0 ?_
 simp only [Act.put, List.setIfInBounds_toArray, List.set_cons_zero, List.set_cons_succ]
 refine take_at 5 (some 19) (.pointer (some ⟨b, 303, none⟩)) rfl rfl (by kernel_rfl) (by kernel_rfl) (by kernel_rfl) (fun _ _ _ h => h) (by rfl) (fun W hSw => by obtain ⟨q1, q2⟩ := hSw; go_simp) hS0 ?_
 simp only [Act.put, List.setIfInBounds_toArray, List.set_cons_zero, List.set_cons_succ]
 refine take_at 6 (some 20) (.int .i64 nw) rfl rfl (by kernel_rfl) (by kernel_rfl) (by kernel_rfl) (fun _ _ _ h => h) (by rfl) (fun W hSw => by obtain ⟨q1, q2⟩ := hSw; go_simp) hS0 ?_
 simp only [Act.put, List.setIfInBounds_toArray, List.set_cons_zero, List.set_cons_succ]
 refine take_at 7 (some 21) (.pointer (some ⟨b, 0, none⟩)) rfl rfl (by kernel_rfl) (by kernel_rfl) (by kernel_rfl) (fun _ _ _ h => h) (by rfl) (fun W hSw => by obtain ⟨q1, q2⟩ := hSw; go_simp) hS0 ?_
 simp only [Act.put, List.setIfInBounds_toArray, List.set_cons_zero, List.set_cons_succ]
 refine take_at 8 (some 22) (.pointer (some ⟨b, 0, none⟩)) rfl rfl (by kernel_rfl) (by kernel_rfl) (by kernel_rfl) (fun _ _ _ h => h) (by rfl) (fun W hSw => by obtain ⟨q1, q2⟩ := hSw; go_simp) hS0 ?_
 simp only [Act.put, List.setIfInBounds_toArray, List.set_cons_zero, List.set_cons_succ]
 refine take_at 9 (some 23) (.pointer (some ⟨b, 302, none⟩)) rfl rfl (by kernel_rfl) (by kernel_rfl) (by kernel_rfl) (fun _ _ _ h => h) (by rfl) (fun W hSw => by obtain ⟨q1, q2⟩ := hSw; go_simp) hS0 ?_
 simp only [Act.put, List.setIfInBounds_toArray, List.set_cons_zero, List.set_cons_succ]
 refine take_at 10 (some 24) (.int .i64 k) rfl rfl (by kernel_rfl) (by kernel_rfl) (by kernel_rfl) (fun _ _ _ h => h) (by rfl) (fun W hSw => by obtain ⟨q1, q2⟩ := hSw; go_simp) hS0 ?_
 simp only [Act.put, List.setIfInBounds_toArray, List.set_cons_zero, List.set_cons_succ]
 refine take_at 11 (some 25) (.int .i64 (nw - k)) rfl rfl (by kernel_rfl) (by kernel_rfl) (by kernel_rfl) (fun _ _ _ h => h) (by rfl) (fun W hSw => by go_simp; exact E1.out) hS0 ?_
 simp only [Act.put, List.setIfInBounds_toArray, List.set_cons_zero, List.set_cons_succ]
 refine wpAnyH_ready (rs := [12]) (by kernel_rfl) (by simp) ?_
 refine AllReadyH.cons rfl (fun K hK => ?_) AllReadyH.nil
 go_simp
 refine hfo.mono ?_
 rintro e w1 ⟨rfl, h1, h2⟩
 have hS1 : (fun W : World => W.cell? ⟨b, 303, none⟩ = some (Value.int .i64 nw) ∧ W.cell? ⟨b, 302, none⟩ = some (Value.int .i64 k)) w1 := ⟨h1.time, h1.width⟩
 refine hK.out _ _ hS1 (fun _ => ?_)
 clear hK K
 refine wpAnyH_done (by kernel_rfl) ?_ _
 refine NoPanic.normal ?_
 go_wp2
 go_end0
 exact ⟨rfl, by rw [HO.out]; exact h1, (hg.trans (grown_below (Below.refl _ _).drew (some b))).trans h2⟩
theorem BoxS.putV {w : World} {b : Nat} {s : Smp} (h : BoxS w b s) (o : Bool) (n : Int) : BoxS ((w.setCell ⟨b, 1, none⟩ (.bool o)).setCell ⟨b, 2, none⟩ (.int .i64 n)) b (s.1, o, n) := by
 obtain ⟨c0, c1, c2, f0, f1, f2⟩ := h
 refine ⟨(set_ne (by omega)).trans ((set_ne (by omega)).trans c0), (set_ne (by omega)).trans (set_same c1), set_same ((set_ne (by omega)).trans c2), ?_, ?_, ?_⟩
 ·
  simpa using f0
 ·
  simpa using f1
 ·
  simpa using f2
end Go.Proofs.YtjgckfcocmhnhaaGreatDoor.Ex
namespace Go.Proofs.YtjgckfcocmhnhaaGreatDoor.Ex
open Go.RowKit
theorem Wf.room {l : List Smp} {k nw : Int} (h : Wf l k nw) {t : Int} (ho : ¬ (t < 0 ∨ nw < t ∨ t ≤ nw - k)) (h1 : ¬ (l ≠ [] ∧ t ≤ (lst l).1)) : l.length < 100 := by
 have e : adE l k nw (t, false, (0 : Int)).1 = 0 := by unfold adE; rw [if_neg ho, if_neg h1]
 have hw := (h.add (t, false, 0) ⟨by show _ ≤ (0 : Int); omega, by show (0 : Int) ≤ _; omega⟩).le
 unfold adL at hw
 rw [if_pos e, List.length_append, List.length_singleton] at hw
 omega
theorem adE_out {l : List Smp} {k nw t : Int} (h : t < 0 ∨ nw < t ∨ t ≤ nw - k) : adE l k nw t = 152 := by unfold adE; rw [if_pos h]
theorem adE_old {l : List Smp} {k nw t : Int} (h : ¬ (t < 0 ∨ nw < t ∨ t ≤ nw - k)) (h1 : l ≠ [] ∧ t ≤ (lst l).1) : adE l k nw t = 150 := by unfold adE; rw [if_neg h, if_pos h1]
theorem adE_ok {l : List Smp} {k nw t : Int} (h : ¬ (t < 0 ∨ nw < t ∨ t ≤ nw - k)) (h1 : ¬ (l ≠ [] ∧ t ≤ (lst l).1)) : adE l k nw t = 0 := by unfold adE; rw [if_neg h, if_neg h1]
set_option maxHeartbeats 2000000 in
theorem add_out (b : Nat) (l : List Smp) (k now : Int) (g : Bool) (s : Smp) (w : World) (h : Rl w b l k now g) (hk : 1 ≤ k ∧ k ≤ 100) (hn : 0 ≤ now ∧ now ≤ 1000000) (ho : s.1 < 0 ∨ now < s.1 ∨ s.1 ≤ now - k) :
  Calls Tryz.prog 180 #[.pointer (some ⟨b, 0, none⟩), sv s] w fun e w' => e = .returned (.int .i64 152) ∧ Below w.heap.size w w' := by
 have hb1 := bal (Below.refl _ w) (.cells #[.int .i64 s.1, .bool s.2.1, .int .i64 s.2.2] 35)
 have h1 := (h.later hb1).time
 have h2 := (h.later hb1).width
 have e1 : wrap64 (now - k) = now - k := by unfold wrap64; omega
 clear h
 obtain ⟨t, o, n⟩ := s
 dsimp only at *
 by_cases c1 : t < 0
 ·
  have d1 : decide (t < 0) = true := decide_eq_true c1
  clear c1 ho
  go_enter Tryz.func180, Tryz.ntmps180
  go_wp2_with fail
  go_quiet (fail)
  go_wp2
  go_ret
  exact ⟨rfl, below_drewN hb1 _⟩
 ·
  have d1 : decide (t < 0) = false := decide_eq_false c1
  by_cases c2 : now < t
  ·
   have d2 : decide (now < t) = true := decide_eq_true c2
   clear c1 c2 ho
   go_enter Tryz.func180, Tryz.ntmps180
   go_wp2_with fail
   go_quiet (fail)
   go_wp2
   go_ret
   exact ⟨rfl, below_drewN hb1 _⟩
  ·
   have d2 : decide (now < t) = false := decide_eq_false c2
   have d3 : decide (t ≤ now - k) = true := decide_eq_true (by omega)
   clear c1 c2 ho
   go_enter Tryz.func180, Tryz.ntmps180
   go_wp2_with fail
   go_quiet (fail)
   go_wp2
   go_ret
   exact ⟨rfl, below_drewN hb1 _⟩
end Go.Proofs.YtjgckfcocmhnhaaGreatDoor.Ex
namespace Go.Proofs.YtjgckfcocmhnhaaGreatDoor.Ex
open Go.RowKit
set_option maxHeartbeats 1000000 in
theorem put_G (b p : Nat) (l : List Smp) (k now : Int) (g : Bool) (s : Smp) (w : World) (h : Rl w b l k now g) (hd : l.Pairwise (fun a b => kg true b < kg true a)) (hr : ∀ x ∈ l, R64 x.2.2) (hs : R64 s.2.2) (hlen : l.length < 100) (hx : BoxS w p s) (hpb : p ≠ b) :
  Calls Tryz.prog 186 #[.pointer (some ⟨b, 0, none⟩), sv s, .func (.func 187) #[] #[.pointer (some ⟨p, 0, none⟩)]] w fun e w' => e = .returned (.tuple #[]) ∧ Rl w' b (kp (kg true) s l ++ [s]) k now g ∧ w.grownBy w' (some b) := by
 have hfd := field_v
 have hb1 := bal (Below.refl _ w) (.cells #[.int .i64 s.1, .bool s.2.1, .int .i64 s.2.2] 35)
 have h1 := h.later hb1
 have hx1 := hx.later hb1
 have hy1 := BoxS.new w s
 have hbn : b ≠ w.heap.size := by have := h.lt; omega
 have hbt := beat_G p s
 have HD : Hid (l.Pairwise (fun a b => kg true b < kg true a)) := hd
 have HR : Hid (∀ x ∈ l, R64 x.2.2) := hr
 clear hd hr
 go_enter Tryz.func186, Tryz.ntmps186
 go_wp2_with fail
 go_loopw [] (fun wr => ∃ r, Rl wr b r k now g ∧ kp (kg true) s r = kp (kg true) s l ∧ r.Pairwise (fun a b => kg true b < kg true a) ∧ (∀ x ∈ r, R64 x.2.2) ∧ r.length < 100 ∧ BoxS wr p s ∧ BoxS wr w.heap.size s ∧ w.grownBy wr (some b)) (fun wr => cntW wr b)
 case atStart => exact ⟨l, h1, rfl, HD.out, HR.out, hlen, hx1, hy1, grown_below hb1 _⟩
 case round =>
  obtain ⟨r, hrl, hkp, hpd, hrr, hrlen, hxp, hyp, hg⟩ := hrel
  have HK : Hid (kp (kg true) s r = kp (kg true) s l) := hkp
  have HPD : Hid (r.Pairwise (fun a b => kg true b < kg true a)) := hpd
  have HRR : Hid (∀ x ∈ r, R64 x.2.2) := hrr
  clear hkp hpd hrr h1 hx1 hy1 hb1 h hx
  rcases List.eq_nil_or_concat r with hn | ⟨r', x, hc⟩
  ·
   subst hn
   have HE : Hid (([] : List Smp) = kp (kg true) s l) := HK.out
   have i0 : wr.cell? ⟨b, 301, none⟩ = some (.int .i64 0) := by obtain ⟨f, o, ho, hl, hr, hf⟩ := hrl; exact hr.cc
   obtain ⟨f2, o2, ho2, hl2, hr2, hf2⟩ := hrl
   have HF2 : Hid (∀ i, i < ([] : List Smp).length → f2 ((o2 + i) % 100) = ([] : List Smp).getD i s0) := hf2
   have hx1 : (o2 + ([] : List Smp).length) % 100 < 100 := by omega
   have HL : Hid (([] : List Smp).length < 100) := (by show 0 < 100; omega)
   have hpl := fun W hW => place_cell b o2 ([] : List Smp).length W hW ho2 (by have := HL.out; omega)
   clear hf2 hl2
   generalize hmm2 : ([] : List Smp).length = m2 at *
   have HM2 : Hid _ := hmm2
   clear hmm2
   generalize hxx : (o2 + m2) % 100 = x2 at *
   have HX2 : Hid _ := hxx
   clear hxx
   go_wp2_with fail
   have hr3 : Rg wr.drew b f2 o2 m2 k now g := hr2.later (Below.refl _ _).drew
   have hx3 : BoxS wr.drew w.heap.size s := hyp.later (Below.refl _ _).drew
   have hg3 : w.grownBy wr.drew (some b) := hg.trans (grown_below (Below.refl _ _).drew (some b))
   have hc0 : wr.cell? ⟨b, x2 * 3, none⟩ = _ := hr2.ct x2 hx1
   have hc1 : wr.cell? ⟨b, x2 * 3 + 1, none⟩ = _ := hr2.cv x2 hx1
   have hc2 : wr.cell? ⟨b, x2 * 3 + 2, none⟩ = _ := hr2.cn x2 hx1
   have g0 := hr2.fz (x2 * 3) (by omega)
   have g1 := hr2.fz (x2 * 3 + 1) (by omega)
   have g2 := hr2.fz (x2 * 3 + 2) (by omega)
   clear hr2 hyp hg
   have hr4 := hr3.put hx1 s
   have hx4 := hx3.kept (grown3 wr.drew b (x2 * 3) s) (by simp; omega)
   have hg4 := hg3.trans (grown3 wr.drew b (x2 * 3) s)
   have i1 := hr3.cc
   have i2 := hr3.co
   obtain ⟨d0, d1, d2, _, _, _⟩ := id hx3
   have hS0 : (fun W : World => W.cell? ⟨b, 300, none⟩ = some (Value.int .i64 o2) ∧ W.cell? ⟨b, 301, none⟩ = some (Value.int .i64 m2) ∧ W.cell? ⟨w.heap.size, 0, none⟩ = some (Value.int .i64 s.1) ∧ W.cell? ⟨w.heap.size, 1, none⟩ = some (Value.bool s.2.1) ∧ W.cell? ⟨w.heap.size, 2, none⟩ = some (Value.int .i64 s.2.2)) _ := ⟨i2, i1, d0, d1, d2⟩
   refine wp_region_noPanic ?_
   refine wp_region_held_drew (S := fun W : World => W.cell? ⟨b, 300, none⟩ = some (Value.int .i64 o2) ∧ W.cell? ⟨b, 301, none⟩ = some (Value.int .i64 m2) ∧ W.cell? ⟨w.heap.size, 0, none⟩ = some (Value.int .i64 s.1) ∧ W.cell? ⟨w.heap.size, 1, none⟩ = some (Value.bool s.2.1) ∧ W.cell? ⟨w.heap.size, 2, none⟩ = some (Value.int .i64 s.2.2)) (by kernel_rfl) hS0 (fun _ => ?_)
   refine take_at 0 (some 25) (.pointer (some ⟨b, 0, none⟩)) rfl rfl (by kernel_rfl) (by kernel_rfl) (by kernel_rfl) (fun _ _ _ h => h) (by rfl) (fun W hSw => by obtain ⟨q0, q1, q2, q3, q4⟩ := hSw; go_simp) hS0 ?_
   simp only [Act.put, List.setIfInBounds_toArray, List.set_cons_zero, List.set_cons_succ]
   refine take_at 1 (some 26) (.pointer (some ⟨b, 0, none⟩)) rfl rfl (by kernel_rfl) (by kernel_rfl) (by kernel_rfl) (fun _ _ _ h => h) (by rfl) (fun W hSw => by obtain ⟨q0, q1, q2, q3, q4⟩ := hSw; go_simp) hS0 ?_
   simp only [Act.put, List.setIfInBounds_toArray, List.set_cons_zero, List.set_cons_succ]
   refine take_at 2 (some 27) (.pointer (some ⟨b, 0, none⟩)) rfl rfl (by kernel_rfl) (by kernel_rfl) (by kernel_rfl) (fun _ _ _ h => h) (by rfl) (fun W hSw => by obtain ⟨q0, q1, q2, q3, q4⟩ := hSw; go_simp) hS0 ?_
   simp only [Act.put, List.setIfInBounds_toArray, List.set_cons_zero, List.set_cons_succ]
   refine take_at 3 (some 28) (.pointer (some ⟨b, 0, none⟩)) rfl rfl (by kernel_rfl) (by kernel_rfl) (by kernel_rfl) (fun _ _ _ h => h) (by rfl) (fun W hSw => by obtain ⟨q0, q1, q2, q3, q4⟩ := hSw; go_simp) hS0 ?_
   simp only [Act.put, List.setIfInBounds_toArray, List.set_cons_zero, List.set_cons_succ]
   refine take_at 4 (some 29) (.pointer (some ⟨b, 301, none⟩)) rfl rfl (by kernel_rfl) (by kernel_rfl) (by kernel_rfl) (fun _ _ _ h => h) (by rfl) (fun W hSw => by obtain ⟨q0, q1, q2, q3, q4⟩ := hSw; go_simp) hS0 ?_
   simp only [Act.put, List.setIfInBounds_toArray, List.set_cons_zero, List.set_cons_succ]
   refine take_at 5 (some 30) (.int .i64 m2) rfl rfl (by kernel_rfl) (by kernel_rfl) (by kernel_rfl) (fun _ _ _ h => h) (by rfl) (fun W hSw => by obtain ⟨q0, q1, q2, q3, q4⟩ := hSw; go_simp) hS0 ?_
   simp only [Act.put, List.setIfInBounds_toArray, List.set_cons_zero, List.set_cons_succ]
   refine take_at 7 (some 32) (sv s) rfl rfl (by kernel_rfl) (by kernel_rfl) (by kernel_rfl) (fun _ _ _ h => h) (by rfl) (fun W hSw => by obtain ⟨q0, q1, q2, q3, q4⟩ := hSw; go_simp) hS0 ?_
   simp only [Act.put, List.setIfInBounds_toArray, List.set_cons_zero, List.set_cons_succ]
   refine take_at 8 (some 33) (.pointer (some ⟨b, 0, none⟩)) rfl rfl (by kernel_rfl) (by kernel_rfl) (by kernel_rfl) (fun _ _ _ h => h) (by rfl) (fun W hSw => by obtain ⟨q0, q1, q2, q3, q4⟩ := hSw; go_simp) hS0 ?_
   simp only [Act.put, List.setIfInBounds_toArray, List.set_cons_zero, List.set_cons_succ]
   refine take_at 9 (some 34) (.pointer (some ⟨b, 0, none⟩)) rfl rfl (by kernel_rfl) (by kernel_rfl) (by kernel_rfl) (fun _ _ _ h => h) (by rfl) (fun W hSw => by obtain ⟨q0, q1, q2, q3, q4⟩ := hSw; go_simp) hS0 ?_
   simp only [Act.put, List.setIfInBounds_toArray, List.set_cons_zero, List.set_cons_succ]
   refine wpAnyH_ready (rs := [6]) (by kernel_rfl) (by simp) ?_
   refine AllReadyH.cons rfl (fun K hK => ?_) AllReadyH.nil
   go_simp
   refine (hpl _ i2).mono ?_
   rintro e w' ⟨rfl, rfl⟩
   have hS1 := (⟨i2, i1, d0, d1, d2⟩ : (fun W : World => W.cell? ⟨b, 300, none⟩ = some (Value.int .i64 o2) ∧ W.cell? ⟨b, 301, none⟩ = some (Value.int .i64 m2) ∧ W.cell? ⟨w.heap.size, 0, none⟩ = some (Value.int .i64 s.1) ∧ W.cell? ⟨w.heap.size, 1, none⟩ = some (Value.bool s.2.1) ∧ W.cell? ⟨w.heap.size, 2, none⟩ = some (Value.int .i64 s.2.2)) _)
   refine hK.out _ _ hS1 (fun _ => ?_)
   clear hK K
   refine take_at 10 (some 35) (.pointer (some ⟨b, x2 * 3, none⟩)) rfl rfl (by kernel_rfl) (by kernel_rfl) (by kernel_rfl) (fun _ _ _ h => h) (by rfl) (fun W hSw => by obtain ⟨q0, q1, q2, q3, q4⟩ := hSw; go_simp; intro hh; exfalso; omega) hS1 ?_
   simp only [Act.put, List.setIfInBounds_toArray, List.set_cons_zero, List.set_cons_succ]
   refine wpAnyH_ready (rs := [11]) (by kernel_rfl) (by simp) ?_
   refine AllReadyH.cons rfl (fun K hK => ?_) AllReadyH.nil
   go_simp
   have hS2 := (⟨hr4.co, hr4.cc, hx4.c0, hx4.c1, hx4.c2⟩ : (fun W : World => W.cell? ⟨b, 300, none⟩ = some (Value.int .i64 o2) ∧ W.cell? ⟨b, 301, none⟩ = some (Value.int .i64 m2) ∧ W.cell? ⟨w.heap.size, 0, none⟩ = some (Value.int .i64 s.1) ∧ W.cell? ⟨w.heap.size, 1, none⟩ = some (Value.bool s.2.1) ∧ W.cell? ⟨w.heap.size, 2, none⟩ = some (Value.int .i64 s.2.2)) _)
   refine hK.out _ _ hS2 (fun _ => ?_)
   clear hK K
   refine wpAnyH_done (by kernel_rfl) ?_ _
   refine NoPanic.normal ?_
   change Exit.then _ _ Exit.normal _ (set3 wr.drew b (x2 * 3) s)
   generalize set3 wr.drew b (x2 * 3) s = wb at *
   have k1 := hr4.cc
   have k2 := hr4.fz 301 (by omega)
   have e1 : wrap64 ((m2 : Int) + 1) = ((m2 + 1 : Nat) : Int) := by have := HL.out; unfold wrap64; omega
   clear hS0 hS1 hS2
   go_wp2
   go_end0
   refine ⟨rfl, ?_, hg4.trans (grown_set _ _ _ _)⟩
   rw [← HE.out]
   have hq : Rg (wb.setCell ⟨b, 301, none⟩ (.int .i64 ((m2 : Int) + 1))) b (fun j => if j = x2 then s else f2 j) o2 (m2 + 1) k now g := hr4.setC (m2 + 1)
   exact Rl.push (f := f2) ho2 (by rw [HM2.out]; exact HL.out) (by rw [HM2.out]; exact HF2.out) (by rw [HM2.out, HX2.out]; exact hq)
  ·
   rw [List.concat_eq_append] at hc
   have hne : r ≠ [] := by rw [hc]; simp
   have hla := last_any b r k now g wr hrl hne
   have hlx : lst r = x := by rw [hc, lst_snoc]
   rw [hlx] at hla
   have hrx : R64 x.2.2 := HRR.out x (by rw [hc]; simp)
   have hlr : r.length = r'.length + 1 := by rw [hc]; simp
   obtain ⟨xt, xo, xn⟩ := x
   have i1 : wr.cell? ⟨b, 301, none⟩ = some (.int .i64 ((r'.length : Int) + 1)) := by
    obtain ⟨f, o, ho, hl, hr, hf⟩ := hrl
    have := hr.cc
    rw [hlr] at this
    exact this
   have hm : cntW wr b = r'.length + 1 := by obtain ⟨f, o, ho, hl, hr, hf⟩ := hrl; rw [hr.cnt, hlr]
   have h2 : decide ((0 : Int) < (r'.length : Int) + 1) = true := decide_eq_true (by omega)
   have HC : Hid (r = r' ++ [(xt, xo, xn)]) := hc
   have HLR : Hid (r.length = r'.length + 1) := hlr
   have hl100 : r'.length + 1 < 100 := by omega
   clear hc hlr hlx hne hrlen
   generalize hm' : r'.length = m at *
   have HM : Hid (r'.length = m) := hm'
   clear hm'
   by_cases hq : kg true (xt, xo, xn) ≤ kg true s
   ·
    have dq : decide (kg true (xt, xo, xn) ≤ kg true s) = true := decide_eq_true hq
    have HK2 : Hid (kp (kg true) s r' = kp (kg true) s l) := by show _ = _; rw [← HK.out, HC.out, kp_pop hq]
    clear hq
    go_wp2_with fail
    refine hla.mono ?_
    rintro e w1 ⟨rfl, hb1⟩
    go_wp2_with fail
    refine (hbt xt xo xn w1 (hxp.later hb1) hrx hs).mono ?_
    rintro e w2 ⟨rfl, hb2⟩
    rw [dq]
    have hb3 := Below.chain hb1 hb2
    have hrl2 := hrl.later hb3
    have hxp2 := hxp.later hb3
    have hyp2 := hyp.later hb3
    have hg2 := hg.trans (grown_below hb3 (some b))
    obtain ⟨f, o, ho, hl, hr, hf⟩ := hrl2
    have j1 : w2.cell? ⟨b, 301, none⟩ = some (.int .i64 ((m : Int) + 1)) := by have := hr.cc; rw [HLR.out] at this; exact this
    have j3 := hr.fz 301 (by omega)
    have e1 : wrap64 ((m : Int) + 1 - 1) = (m : Int) := by unfold wrap64; omega
    have e2 : wrap64 (m : Int) = (m : Int) := by unfold wrap64; omega
    have HF : Hid (∀ i, i < r.length → f ((o + i) % 100) = r.getD i s0) := hf
    clear hf hl hla
    go_wp2_with fail
    go_roundw
    case rel =>
     refine ⟨r', Rl.drop ho (by rw [HM.out]; omega) (s := (xt, xo, xn)) (by rw [← HC.out]; rw [HM.out]; have := HF.out; rw [HLR.out] at this; exact this) (by rw [HM.out]; exact hr.setC m), HK2.out, ?_, ?_, by rw [HM.out]; omega, hxp2.kept (grown_set _ _ _ _) (by simp; omega), hyp2.kept (grown_set _ _ _ _) (by simp; omega), hg2.trans (grown_set _ _ _ _)⟩
     ·
      have := HPD.out
      rw [HC.out] at this
      exact (List.pairwise_append.1 this).1
     ·
      exact fun y hy => HRR.out y (by rw [HC.out]; exact List.mem_append_left _ hy)
    case measure =>
     rw [(hr.setC m).cnt, hm]
     omega
   ·
    have dq : decide (kg true (xt, xo, xn) ≤ kg true s) = false := decide_eq_false hq
    have HE : Hid (r = kp (kg true) s l) := by
     show _ = _
     rw [← HK.out]
     have := HPD.out
     rw [HC.out] at this ⊢
     rw [kp_all this hq]
    have hrl100 : r.length < 100 := by rw [HLR.out]; omega
    clear hq
    go_wp2_with fail
    refine hla.mono ?_
    rintro e w1 ⟨rfl, hb1⟩
    go_wp2_with fail
    refine (hbt xt xo xn w1 (hxp.later hb1) hrx hs).mono ?_
    rintro e w2 ⟨rfl, hb2⟩
    rw [dq]
    have hb3 := Below.chain hb1 hb2
    have hrl2 := hrl.later hb3
    have hyp2 := hyp.later hb3
    have hg2 := hg.trans (grown_below hb3 (some b))
    have i4 : w2.cell? ⟨b, 301, none⟩ = some (.int .i64 ((m : Int) + 1)) := by obtain ⟨f, o, ho, hl, hr, hf⟩ := hrl2; have := hr.cc; rw [HLR.out] at this; exact this
    clear hla hrl hxp hyp hg i1
    obtain ⟨f2, o2, ho2, hl2, hr2, hf2⟩ := hrl2
    have HF2 : Hid (∀ i, i < r.length → f2 ((o2 + i) % 100) = r.getD i s0) := hf2
    have hx1 : (o2 + r.length) % 100 < 100 := by omega
    have HL : Hid (r.length < 100) := hrl100
    have hpl := fun W hW => place_cell b o2 r.length W hW ho2 (by have := HL.out; omega)
    clear hf2 hl2
    generalize hmm2 : r.length = m2 at *
    have HM2 : Hid _ := hmm2
    clear hmm2
    generalize hxx : (o2 + m2) % 100 = x2 at *
    have HX2 : Hid _ := hxx
    clear hxx
    go_wp2_with fail
    have hr3 : Rg w2.drew b f2 o2 m2 k now g := hr2.later (Below.refl _ _).drew
    have hx3 : BoxS w2.drew w.heap.size s := hyp2.later (Below.refl _ _).drew
    have hg3 : w.grownBy w2.drew (some b) := hg2.trans (grown_below (Below.refl _ _).drew (some b))
    have hc0 : w2.cell? ⟨b, x2 * 3, none⟩ = _ := hr2.ct x2 hx1
    have hc1 : w2.cell? ⟨b, x2 * 3 + 1, none⟩ = _ := hr2.cv x2 hx1
    have hc2 : w2.cell? ⟨b, x2 * 3 + 2, none⟩ = _ := hr2.cn x2 hx1
    have g0 := hr2.fz (x2 * 3) (by omega)
    have g1 := hr2.fz (x2 * 3 + 1) (by omega)
    have g2 := hr2.fz (x2 * 3 + 2) (by omega)
    clear hr2 hyp2 hg2
    have hr4 := hr3.put hx1 s
    have hx4 := hx3.kept (grown3 w2.drew b (x2 * 3) s) (by simp; omega)
    have hg4 := hg3.trans (grown3 w2.drew b (x2 * 3) s)
    have i1 := hr3.cc
    have i2 := hr3.co
    obtain ⟨d0, d1, d2, _, _, _⟩ := id hx3
    have hS0 : (fun W : World => W.cell? ⟨b, 300, none⟩ = some (Value.int .i64 o2) ∧ W.cell? ⟨b, 301, none⟩ = some (Value.int .i64 m2) ∧ W.cell? ⟨w.heap.size, 0, none⟩ = some (Value.int .i64 s.1) ∧ W.cell? ⟨w.heap.size, 1, none⟩ = some (Value.bool s.2.1) ∧ W.cell? ⟨w.heap.size, 2, none⟩ = some (Value.int .i64 s.2.2)) _ := ⟨i2, i1, d0, d1, d2⟩
    refine wp_region_noPanic ?_
    refine wp_region_held_drew (S := fun W : World => W.cell? ⟨b, 300, none⟩ = some (Value.int .i64 o2) ∧ W.cell? ⟨b, 301, none⟩ = some (Value.int .i64 m2) ∧ W.cell? ⟨w.heap.size, 0, none⟩ = some (Value.int .i64 s.1) ∧ W.cell? ⟨w.heap.size, 1, none⟩ = some (Value.bool s.2.1) ∧ W.cell? ⟨w.heap.size, 2, none⟩ = some (Value.int .i64 s.2.2)) (by kernel_rfl) hS0 (fun _ => ?_)
    refine take_at 0 (some 25) (.pointer (some ⟨b, 0, none⟩)) rfl rfl (by kernel_rfl) (by kernel_rfl) (by kernel_rfl) (fun _ _ _ h => h) (by rfl) (fun W hSw => by obtain ⟨q0, q1, q2, q3, q4⟩ := hSw; go_simp) hS0 ?_
    simp only [Act.put, List.setIfInBounds_toArray, List.set_cons_zero, List.set_cons_succ]
    refine take_at 1 (some 26) (.pointer (some ⟨b, 0, none⟩)) rfl rfl (by kernel_rfl) (by kernel_rfl) (by kernel_rfl) (fun _ _ _ h => h) (by rfl) (fun W hSw => by obtain ⟨q0, q1, q2, q3, q4⟩ := hSw; go_simp) hS0 ?_
    simp only [Act.put, List.setIfInBounds_toArray, List.set_cons_zero, List.set_cons_succ]
    refine take_at 2 (some 27) (.pointer (some ⟨b, 0, none⟩)) rfl rfl (by kernel_rfl) (by kernel_rfl) (by kernel_rfl) (fun _ _ _ h => h) (by rfl) (fun W hSw => by obtain ⟨q0, q1, q2, q3, q4⟩ := hSw; go_simp) hS0 ?_
    simp only [Act.put, List.setIfInBounds_toArray, List.set_cons_zero, List.set_cons_succ]
    refine take_at 3 (some 28) (.pointer (some ⟨b, 0, none⟩)) rfl rfl (by kernel_rfl) (by kernel_rfl) (by kernel_rfl) (fun _ _ _ h => h) (by rfl) (fun W hSw => by obtain ⟨q0, q1, q2, q3, q4⟩ := hSw; go_simp) hS0 ?_
    simp only [Act.put, List.setIfInBounds_toArray, List.set_cons_zero, List.set_cons_succ]
    refine take_at 4 (some 29) (.pointer (some ⟨b, 301, none⟩)) rfl rfl (by kernel_rfl) (by kernel_rfl) (by kernel_rfl) (fun _ _ _ h => h) (by rfl) (fun W hSw => by obtain ⟨q0, q1, q2, q3, q4⟩ := hSw; go_simp) hS0 ?_
    simp only [Act.put, List.setIfInBounds_toArray, List.set_cons_zero, List.set_cons_succ]
    refine take_at 5 (some 30) (.int .i64 m2) rfl rfl (by kernel_rfl) (by kernel_rfl) (by kernel_rfl) (fun _ _ _ h => h) (by rfl) (fun W hSw => by obtain ⟨q0, q1, q2, q3, q4⟩ := hSw; go_simp) hS0 ?_
    simp only [Act.put, List.setIfInBounds_toArray, List.set_cons_zero, List.set_cons_succ]
    refine take_at 7 (some 32) (sv s) rfl rfl (by kernel_rfl) (by kernel_rfl) (by kernel_rfl) (fun _ _ _ h => h) (by rfl) (fun W hSw => by obtain ⟨q0, q1, q2, q3, q4⟩ := hSw; go_simp) hS0 ?_
    simp only [Act.put, List.setIfInBounds_toArray, List.set_cons_zero, List.set_cons_succ]
    refine take_at 8 (some 33) (.pointer (some ⟨b, 0, none⟩)) rfl rfl (by kernel_rfl) (by kernel_rfl) (by kernel_rfl) (fun _ _ _ h => h) (by rfl) (fun W hSw => by obtain ⟨q0, q1, q2, q3, q4⟩ := hSw; go_simp) hS0 ?_
    simp only [Act.put, List.setIfInBounds_toArray, List.set_cons_zero, List.set_cons_succ]
    refine take_at 9 (some 34) (.pointer (some ⟨b, 0, none⟩)) rfl rfl (by kernel_rfl) (by kernel_rfl) (by kernel_rfl) (fun _ _ _ h => h) (by rfl) (fun W hSw => by obtain ⟨q0, q1, q2, q3, q4⟩ := hSw; go_simp) hS0 ?_
    simp only [Act.put, List.setIfInBounds_toArray, List.set_cons_zero, List.set_cons_succ]
    refine wpAnyH_ready (rs := [6]) (by kernel_rfl) (by simp) ?_
    refine AllReadyH.cons rfl (fun K hK => ?_) AllReadyH.nil
    go_simp
    refine (hpl _ i2).mono ?_
    rintro e w' ⟨rfl, rfl⟩
    have hS1 := (⟨i2, i1, d0, d1, d2⟩ : (fun W : World => W.cell? ⟨b, 300, none⟩ = some (Value.int .i64 o2) ∧ W.cell? ⟨b, 301, none⟩ = some (Value.int .i64 m2) ∧ W.cell? ⟨w.heap.size, 0, none⟩ = some (Value.int .i64 s.1) ∧ W.cell? ⟨w.heap.size, 1, none⟩ = some (Value.bool s.2.1) ∧ W.cell? ⟨w.heap.size, 2, none⟩ = some (Value.int .i64 s.2.2)) _)
    refine hK.out _ _ hS1 (fun _ => ?_)
    clear hK K
    refine take_at 10 (some 35) (.pointer (some ⟨b, x2 * 3, none⟩)) rfl rfl (by kernel_rfl) (by kernel_rfl) (by kernel_rfl) (fun _ _ _ h => h) (by rfl) (fun W hSw => by obtain ⟨q0, q1, q2, q3, q4⟩ := hSw; go_simp; intro hh; exfalso; omega) hS1 ?_
    simp only [Act.put, List.setIfInBounds_toArray, List.set_cons_zero, List.set_cons_succ]
    refine wpAnyH_ready (rs := [11]) (by kernel_rfl) (by simp) ?_
    refine AllReadyH.cons rfl (fun K hK => ?_) AllReadyH.nil
    go_simp
    have hS2 := (⟨hr4.co, hr4.cc, hx4.c0, hx4.c1, hx4.c2⟩ : (fun W : World => W.cell? ⟨b, 300, none⟩ = some (Value.int .i64 o2) ∧ W.cell? ⟨b, 301, none⟩ = some (Value.int .i64 m2) ∧ W.cell? ⟨w.heap.size, 0, none⟩ = some (Value.int .i64 s.1) ∧ W.cell? ⟨w.heap.size, 1, none⟩ = some (Value.bool s.2.1) ∧ W.cell? ⟨w.heap.size, 2, none⟩ = some (Value.int .i64 s.2.2)) _)
    refine hK.out _ _ hS2 (fun _ => ?_)
    clear hK K
    refine wpAnyH_done (by kernel_rfl) ?_ _
    refine NoPanic.normal ?_
    change Exit.then _ _ Exit.normal _ (set3 w2.drew b (x2 * 3) s)
    generalize set3 w2.drew b (x2 * 3) s = wb at *
    have k1 := hr4.cc
    have k2 := hr4.fz 301 (by omega)
    have e1 : wrap64 ((m2 : Int) + 1) = ((m2 + 1 : Nat) : Int) := by have := HL.out; unfold wrap64; omega
    clear hS0 hS1 hS2
    go_wp2
    go_end0
    refine ⟨rfl, ?_, hg4.trans (grown_set _ _ _ _)⟩
    rw [← HE.out]
    have hq : Rg (wb.setCell ⟨b, 301, none⟩ (.int .i64 ((m2 : Int) + 1))) b (fun j => if j = x2 then s else f2 j) o2 (m2 + 1) k now g := hr4.setC (m2 + 1)
    exact Rl.push (f := f2) ho2 (by rw [HM2.out]; exact HL.out) (by rw [HM2.out]; exact HF2.out) (by rw [HM2.out, HX2.out]; exact hq)
set_option maxHeartbeats 2000000 in
theorem adder_G (b : Nat) (l : List Smp) (k now : Int) (g : Bool) (s : Smp) (w : World) (h : Rl w b l k now g) (hd : l.Pairwise (fun a b => kg true b < kg true a)) (hr : ∀ x ∈ l, R64 x.2.2) (hs : R64 s.2.2) (hlen : l.length < 100) :
  Calls Tryz.prog 183 #[.agg #[.pointer (some ⟨b, 0, none⟩)], sv s] w fun e w' => e = .returned (.tuple #[]) ∧ Rl w' b (kp (kg true) s l ++ [s]) k now g ∧ w.grownBy w' (some b) := by
 have hmf : ∀ (fn : Fn) (first cap : Array Value) (w : World), (Instr.makeFunc fn first cap).run Tryz.prog w = .ok (.func fn first cap) w := fun _ _ _ _ => rfl
 have hb1 := bal (Below.refl _ w) (.cells #[.pointer (some ⟨b, 0, none⟩)] 206)
 have hb2 := bal hb1 (.cells #[.int .i64 s.1, .bool s.2.1, .int .i64 s.2.2] 35)
 have hp : (((w.alloc (.cells #[.pointer (some ⟨b, 0, none⟩)] 206)).alloc (.cells #[.int .i64 s.1, .bool s.2.1, .int .i64 s.2.2] 35)).cell? ⟨w.heap.size, 0, none⟩) = some (.pointer (some ⟨b, 0, none⟩)) := by
  rw [World.cell?_alloc_past _ _ _ (by simp), World.cell?_alloc_new]; rfl
 have hx := BoxS.new (w.alloc (.cells #[.pointer (some ⟨b, 0, none⟩)] 206)) s
 have e0 : (w.alloc (.cells #[.pointer (some ⟨b, 0, none⟩)] 206)).heap.size = w.heap.size + 1 := by simp
 rw [e0] at hx
 have h2 := h.later hb2
 have hne : w.heap.size + 1 ≠ b := by have := h.lt; omega
 have hpt := put_G b (w.heap.size + 1) l k now g s _ h2 hd hr hs hlen hx hne
 obtain ⟨c0, c1, c2, _, _, _⟩ := id hx
 clear hd hr hlen h h2
 go_enter Tryz.func183, Tryz.ntmps183
 go_wp2_with fail
 refine hpt.mono ?_
 rintro e w1 ⟨rfl, h3, hg⟩
 go_wp2
 go_end0
 exact ⟨rfl, h3, (grown_below hb2 _).trans hg⟩
end Go.Proofs.YtjgckfcocmhnhaaGreatDoor.Ex
namespace Go.Proofs.YtjgckfcocmhnhaaGreatDoor.Ex
open Go.RowKit
set_option maxHeartbeats 4000000 in
theorem add_inG (b : Nat) (l : List Smp) (k now : Int) (s : Smp) (w : World) (h : Rl w b (thn (kg true) l) k now true) (hw : Wf l k now) (hr : R64 s.2.2) (ho : ¬ (s.1 < 0 ∨ now < s.1 ∨ s.1 ≤ now - k)) :
  Calls Tryz.prog 180 #[.pointer (some ⟨b, 0, none⟩), sv s] w fun e w' => e = .returned (.int .i64 (adE l k now s.1)) ∧ Rl w' b (thn (kg true) (adL l k now s)) k now true ∧ w.grownBy w' (some b) := by
 have hfd := field_t
 have hb1 := bal (Below.refl _ w) (.cells #[.int .i64 s.1, .bool s.2.1, .int .i64 s.2.2] 35)
 have hR := h.later hb1
 have hx := BoxS.new w s
 have h1 := hR.time
 have h2 := hR.width
 have hk := hw.k1
 have hn := hw.n1
 have e1 : wrap64 (now - k) = now - k := by unfold wrap64; omega
 have hbl := h.lt
 have HLen : Hid (¬ (l ≠ [] ∧ s.1 ≤ (lst l).1) → (thn (kg true) l).length < 100) := fun hc => Nat.lt_of_le_of_lt (thn_sub (kg true) l).length_le (hw.room ho hc)
 have HA : Hid (adL l k now s = if adE l k now s.1 = 0 then l ++ [nrm s] else l) := rfl
 have HO : Hid (¬ (s.1 < 0 ∨ now < s.1 ∨ s.1 ≤ now - k)) := ho
 have HPD : Hid _ := thn_down (kg true) l
 have HRR : Hid (∀ x ∈ thn (kg true) l, R64 x.2.2) := fun x hx => hw.rg x ((thn_sub _ l).subset hx)
 have HKP : Hid (∀ y, Hid (thn (kg true) (l ++ [y]) = kp (kg true) y (thn (kg true) l) ++ [y])) := fun y => thn_snoc (kg true) y l
 have HNL : Hid (thn (kg true) l = [] ↔ l = []) := thn_nil
 have HLS : Hid (lst (thn (kg true) l) = lst l) := thn_lst _ l
 have HTH : Hid (thn (kg true) l = thn (kg true) l) := rfl
 have d1 : decide (s.1 < 0) = false := decide_eq_false (by omega)
 have d2 : decide (now < s.1) = false := decide_eq_false (by omega)
 have d3 : decide (s.1 ≤ now - k) = false := decide_eq_false (by omega)
 clear h ho hw
 generalize hth : thn (kg true) l = r at *
 have HR : Hid (thn (kg true) l = r) := hth
 clear hth HTH
 go_enter Tryz.func180, Tryz.ntmps180
 go_wp2_with fail
 go_quiet (fail)
 generalize hwq : (w.alloc (.cells #[.int .i64 s.1, .bool s.2.1, .int .i64 s.2.2] 35)).drewN _ = wa
 have hba : Below w.heap.size w wa := by rw [← hwq]; exact below_drewN hb1 _
 have hRa : Rl wa b r k now true := by rw [← hwq]; exact hR.later (below_drewN (Below.refl _ _) _)
 have hxa : BoxS wa w.heap.size s := by rw [← hwq]; exact hx.later (below_drewN (Below.refl _ _) _)
 clear hwq hx hR h1 h2 hb1 d1 d2 d3 e1
 obtain ⟨t, o, n⟩ := s
 dsimp only at *
 by_cases c4 : r = []
 ·
  have HE : Hid (adE l k now t = 0) := adE_ok HO.out (fun e => e.1 (HNL.out.1 c4))
  have hlen : r.length < 100 := by rw [c4]; show 0 < 100; omega
  have i3 : wa.cell? ⟨b, 301, none⟩ = some (.int .i64 0) := by obtain ⟨f, o, ho, hl, hr, hf⟩ := hRa; have := hr.cc; rw [c4] at this; exact this
  clear c4
  go_wp2_with fail
  go_quiet (fail)
  generalize hwq : wa.drewN _ = w2
  have hb2 : Below w.heap.size w w2 := by rw [← hwq]; exact below_drewN hba _
  have hR2 : Rl w2 b r k now true := by rw [← hwq]; exact hRa.later (below_drewN (Below.refl _ _) _)
  have hx2 : BoxS w2 w.heap.size (t, o, n) := by rw [← hwq]; exact hxa.later (below_drewN (Below.refl _ _) _)
  clear hwq hxa hRa hba i3
  obtain ⟨c0, c1, c2, f0, f1, f2⟩ := id hx2
  go_wp2_with fail
  refine (is_any o n _).mono ?_
  rintro e w3 ⟨rfl, hb3⟩
  have hx3 := hx2.later hb3
  have hR3 := hR2.later hb3
  have hb4 := Below.chain hb2 hb3
  clear hR2 hx2 hb2
  cases hi : fIs o n with
  | true =>
   obtain ⟨n1, n2⟩ := is_cnt hi
   have HN : Hid (nrm (t, o, n) = (t, o, n)) := by show (t, ov (cnt o n), nn (cnt o n)) = _; rw [n1, n2]
   have HT := HKP.out (t, o, n)
   clear n1 n2
   have hx4 := hx3
   have hR4 := hR3
   have hb5 := hb4
   clear hx3 hR3 hb4
   generalize w3 = w4 at *
   have i7 : w4.cell? ⟨b, 304, none⟩ = some (.bool true) := by obtain ⟨f, o, ho, hl, hr, hf⟩ := hR4; exact hr.cg
   have HR2 : Hid (R64 (t, o, n).2.2) := hr
   go_wp2_with fail
   have hR5 : Rl w4.drew b r k now true := hR4.later (Below.refl _ _).drew
   have hx5 : BoxS w4.drew w.heap.size (t, o, n) := hx4.later (Below.refl _ _).drew
   have hS0 : (fun W : World => W.cell? ⟨w.heap.size, 0, none⟩ = some (Value.int .i64 t) ∧ W.cell? ⟨w.heap.size, 1, none⟩ = some (Value.bool o) ∧ W.cell? ⟨w.heap.size, 2, none⟩ = some (Value.int .i64 n)) _ := ⟨hx5.c0, hx5.c1, hx5.c2⟩
   refine wp_region_noPanic ?_
   refine wp_region_held_drew (S := fun W : World => W.cell? ⟨w.heap.size, 0, none⟩ = some (Value.int .i64 t) ∧ W.cell? ⟨w.heap.size, 1, none⟩ = some (Value.bool o) ∧ W.cell? ⟨w.heap.size, 2, none⟩ = some (Value.int .i64 n)) (by kernel_rfl) hS0 (fun _ => ?_)
   refine take_at 0 (some 57) (.pointer (some ⟨b, 0, none⟩)) rfl rfl (by kernel_rfl) (by kernel_rfl) (by kernel_rfl) (fun _ _ _ h => h) (by rfl) (fun W hSw => by obtain ⟨q0, q1, q2⟩ := hSw; go_simp) hS0 ?_
   simp only [Act.put, List.setIfInBounds_toArray, List.set_cons_zero, List.set_cons_succ]
   refine take_at 1 (some 58) (.pointer (some ⟨b, 0, none⟩)) rfl rfl (by kernel_rfl) (by kernel_rfl) (by kernel_rfl) (fun _ _ _ h => h) (by rfl) (fun W hSw => by obtain ⟨q0, q1, q2⟩ := hSw; go_simp) hS0 ?_
   simp only [Act.put, List.setIfInBounds_toArray, List.set_cons_zero, List.set_cons_succ]
   refine take_at 2 (some 59) (.pointer (some ⟨b, 0, none⟩)) rfl rfl (by kernel_rfl) (by kernel_rfl) (by kernel_rfl) (fun _ _ _ h => h) (by rfl) (fun W hSw => by obtain ⟨q0, q1, q2⟩ := hSw; go_simp) hS0 ?_
   simp only [Act.put, List.setIfInBounds_toArray, List.set_cons_zero, List.set_cons_succ]
   refine take_at 3 (some 60) (.agg #[.pointer (some ⟨b, 0, none⟩)]) rfl rfl (by kernel_rfl) (by kernel_rfl) (by kernel_rfl) (fun _ _ _ h => h) (by rfl) (fun W hSw => by obtain ⟨q0, q1, q2⟩ := hSw; go_simp) hS0 ?_
   simp only [Act.put, List.setIfInBounds_toArray, List.set_cons_zero, List.set_cons_succ]
   refine take_at 4 (some 61) (.agg #[.int .i64 t, .bool o, .int .i64 n]) rfl rfl (by kernel_rfl) (by kernel_rfl) (by kernel_rfl) (fun _ _ _ h => h) (by rfl) (fun W hSw => by obtain ⟨q0, q1, q2⟩ := hSw; go_simp) hS0 ?_
   simp only [Act.put, List.setIfInBounds_toArray, List.set_cons_zero, List.set_cons_succ]
   refine wpAnyH_ready (rs := [5]) (by kernel_rfl) (by simp) ?_
   refine AllReadyH.cons rfl (fun K hK => ?_) AllReadyH.nil
   go_simp
   refine (adder_G b r k now true (t, o, n) _ hR5 HPD.out HRR.out HR2.out hlen).mono ?_
   rintro e w6 ⟨rfl, hR6, hg6⟩
   have hx6 := hx5.kept hg6 (by simp; omega)
   have hS1 := (⟨hx6.c0, hx6.c1, hx6.c2⟩ : (fun W : World => W.cell? ⟨w.heap.size, 0, none⟩ = some (Value.int .i64 t) ∧ W.cell? ⟨w.heap.size, 1, none⟩ = some (Value.bool o) ∧ W.cell? ⟨w.heap.size, 2, none⟩ = some (Value.int .i64 n)) w6)
   refine hK.out _ _ hS1 (fun _ => ?_)
   clear hK K
   refine wpAnyH_done (by kernel_rfl) ?_ _
   refine NoPanic.normal ?_
   go_wp2
   go_ret
   exact ⟨by rw [HE.out]; rfl, by rw [HA.out, HE.out, if_pos rfl, HN.out, HT.out]; exact hR6, (grown_below (hb5.trans (Below.refl _ _).drew) (some b)).trans hg6⟩
  | false =>
   have HN : Hid (nrm (t, o, n) = (t, true, 0)) := by show (t, ov (cnt o n), nn (cnt o n)) = _; rw [isnt_cnt hr.1 hi]; rfl
   have HT := HKP.out (t, true, 0)
   obtain ⟨c0, c1, c2, f0, f1, f2⟩ := id hx3
   have hx4 : BoxS ((w3.setCell ⟨w.heap.size, 1, none⟩ (.bool true)).setCell ⟨w.heap.size, 2, none⟩ (.int .i64 0)) w.heap.size (t, true, 0) := hx3.putV true 0
   have hR4 : Rl ((w3.setCell ⟨w.heap.size, 1, none⟩ (.bool true)).setCell ⟨w.heap.size, 2, none⟩ (.int .i64 0)) b r k now true := hR3.kept ((grown_set _ _ _ _).trans (grown_set _ _ _ _)) (by simp; omega)
   have hb5 : Below w.heap.size w ((w3.setCell ⟨w.heap.size, 1, none⟩ (.bool true)).setCell ⟨w.heap.size, 2, none⟩ (.int .i64 0)) := (hb4.setCell (p := ⟨w.heap.size, 1, none⟩) (Nat.le_refl _) _).setCell (p := ⟨w.heap.size, 2, none⟩) (Nat.le_refl _) _
   have i7 : ((w3.setCell ⟨w.heap.size, 1, none⟩ (.bool true)).setCell ⟨w.heap.size, 2, none⟩ (.int .i64 0)).cell? ⟨b, 304, none⟩ = some (.bool true) := by obtain ⟨f, o, ho, hl, hr, hf⟩ := hR4; exact hr.cg
   clear hx3 hR3 hb4
   go_wp2_with fail
   generalize (w3.setCell ⟨w.heap.size, 1, none⟩ (.bool true)).setCell ⟨w.heap.size, 2, none⟩ (.int .i64 0) = w4 at *
   have HR2 : Hid (R64 (t, true, 0).2.2) := (by show R64 0; exact ⟨by decide, by decide⟩)
   have hR5 : Rl w4.drew b r k now true := hR4.later (Below.refl _ _).drew
   have hx5 : BoxS w4.drew w.heap.size (t, true, 0) := hx4.later (Below.refl _ _).drew
   have hS0 : (fun W : World => W.cell? ⟨w.heap.size, 0, none⟩ = some (Value.int .i64 t) ∧ W.cell? ⟨w.heap.size, 1, none⟩ = some (Value.bool true) ∧ W.cell? ⟨w.heap.size, 2, none⟩ = some (Value.int .i64 0)) _ := ⟨hx5.c0, hx5.c1, hx5.c2⟩
   refine wp_region_noPanic ?_
   refine wp_region_held_drew (S := fun W : World => W.cell? ⟨w.heap.size, 0, none⟩ = some (Value.int .i64 t) ∧ W.cell? ⟨w.heap.size, 1, none⟩ = some (Value.bool true) ∧ W.cell? ⟨w.heap.size, 2, none⟩ = some (Value.int .i64 0)) (by kernel_rfl) hS0 (fun _ => ?_)
   refine take_at 0 (some 57) (.pointer (some ⟨b, 0, none⟩)) rfl rfl (by kernel_rfl) (by kernel_rfl) (by kernel_rfl) (fun _ _ _ h => h) (by rfl) (fun W hSw => by obtain ⟨q0, q1, q2⟩ := hSw; go_simp) hS0 ?_
   simp only [Act.put, List.setIfInBounds_toArray, List.set_cons_zero, List.set_cons_succ]
   refine take_at 1 (some 58) (.pointer (some ⟨b, 0, none⟩)) rfl rfl (by kernel_rfl) (by kernel_rfl) (by kernel_rfl) (fun _ _ _ h => h) (by rfl) (fun W hSw => by obtain ⟨q0, q1, q2⟩ := hSw; go_simp) hS0 ?_
   simp only [Act.put, List.setIfInBounds_toArray, List.set_cons_zero, List.set_cons_succ]
   refine take_at 2 (some 59) (.pointer (some ⟨b, 0, none⟩)) rfl rfl (by kernel_rfl) (by kernel_rfl) (by kernel_rfl) (fun _ _ _ h => h) (by rfl) (fun W hSw => by obtain ⟨q0, q1, q2⟩ := hSw; go_simp) hS0 ?_
   simp only [Act.put, List.setIfInBounds_toArray, List.set_cons_zero, List.set_cons_succ]
   refine take_at 3 (some 60) (.agg #[.pointer (some ⟨b, 0, none⟩)]) rfl rfl (by kernel_rfl) (by kernel_rfl) (by kernel_rfl) (fun _ _ _ h => h) (by rfl) (fun W hSw => by obtain ⟨q0, q1, q2⟩ := hSw; go_simp) hS0 ?_
   simp only [Act.put, List.setIfInBounds_toArray, List.set_cons_zero, List.set_cons_succ]
   refine take_at 4 (some 61) (.agg #[.int .i64 t, .bool true, .int .i64 0]) rfl rfl (by kernel_rfl) (by kernel_rfl) (by kernel_rfl) (fun _ _ _ h => h) (by rfl) (fun W hSw => by obtain ⟨q0, q1, q2⟩ := hSw; go_simp) hS0 ?_
   simp only [Act.put, List.setIfInBounds_toArray, List.set_cons_zero, List.set_cons_succ]
   refine wpAnyH_ready (rs := [5]) (by kernel_rfl) (by simp) ?_
   refine AllReadyH.cons rfl (fun K hK => ?_) AllReadyH.nil
   go_simp
   refine (adder_G b r k now true (t, true, 0) _ hR5 HPD.out HRR.out HR2.out hlen).mono ?_
   rintro e w6 ⟨rfl, hR6, hg6⟩
   have hx6 := hx5.kept hg6 (by simp; omega)
   have hS1 := (⟨hx6.c0, hx6.c1, hx6.c2⟩ : (fun W : World => W.cell? ⟨w.heap.size, 0, none⟩ = some (Value.int .i64 t) ∧ W.cell? ⟨w.heap.size, 1, none⟩ = some (Value.bool true) ∧ W.cell? ⟨w.heap.size, 2, none⟩ = some (Value.int .i64 0)) w6)
   refine hK.out _ _ hS1 (fun _ => ?_)
   clear hK K
   refine wpAnyH_done (by kernel_rfl) ?_ _
   refine NoPanic.normal ?_
   go_wp2
   go_ret
   exact ⟨by rw [HE.out]; rfl, by rw [HA.out, HE.out, if_pos rfl, HN.out, HT.out]; exact hR6, (grown_below (hb5.trans (Below.refl _ _).drew) (some b)).trans hg6⟩
 ·
  have hla := fun W hW => last_any b r k now true W hW c4
  rw [HLS.out] at hla
  have hpos := List.length_pos_iff.2 c4
  have hl0 : l ≠ [] := fun e => c4 (HNL.out.2 e)
  obtain ⟨c, i3w, hcp⟩ : ∃ c : Nat, wa.cell? ⟨b, 301, none⟩ = some (.int .i64 c) ∧ 0 < c := ⟨r.length, by obtain ⟨f, o, ho, hl, hr, hf⟩ := hRa; exact hr.cc, hpos⟩
  have hc2 : (0 : Int) < (c : Int) := by omega
  generalize hxl : lst l = x at *
  have HX : Hid (lst l = x) := hxl
  clear hxl hpos hcp
  obtain ⟨xt, xo, xn⟩ := x
  dsimp only at *
  go_wp2_with fail
  have hR1 : Rl wa.drew b r k now true := hRa.later (Below.refl _ _).drew
  have hx1 : BoxS wa.drew w.heap.size (t, o, n) := hxa.later (Below.refl _ _).drew
  have hba1 : Below w.heap.size w wa.drew := hba.trans (Below.refl _ _).drew
  have i3 : wa.drew.cell? ⟨b, 301, none⟩ = some (.int .i64 c) := i3w
  have hS0 : (fun W : World => W.cell? ⟨b, 301, none⟩ = some (Value.int .i64 c) ∧ W.cell? ⟨w.heap.size, 0, none⟩ = some (Value.int .i64 t)) _ := ⟨i3, hx1.c0⟩
  refine wp_region_noPanic ?_
  refine wp_region_held_drew (S := fun W : World => W.cell? ⟨b, 301, none⟩ = some (Value.int .i64 c) ∧ W.cell? ⟨w.heap.size, 0, none⟩ = some (Value.int .i64 t)) (by kernel_rfl) hS0 (fun _ => ?_)
  refine take_at 0 (some 31) (.pointer (some ⟨b, 0, none⟩)) rfl rfl (by kernel_rfl) (by kernel_rfl) (by kernel_rfl) (fun _ _ _ h => h) (by rfl) (fun W hSw => by obtain ⟨q0, q1⟩ := hSw; go_simp) hS0 ?_
  simp only [Act.put, List.setIfInBounds_toArray, List.set_cons_zero, List.set_cons_succ]
  refine take_at 1 (some 32) (.pointer (some ⟨b, 0, none⟩)) rfl rfl (by kernel_rfl) (by kernel_rfl) (by kernel_rfl) (fun _ _ _ h => h) (by rfl) (fun W hSw => by obtain ⟨q0, q1⟩ := hSw; go_simp) hS0 ?_
  simp only [Act.put, List.setIfInBounds_toArray, List.set_cons_zero, List.set_cons_succ]
  refine take_at 2 (some 33) (.pointer (some ⟨b, 0, none⟩)) rfl rfl (by kernel_rfl) (by kernel_rfl) (by kernel_rfl) (fun _ _ _ h => h) (by rfl) (fun W hSw => by obtain ⟨q0, q1⟩ := hSw; go_simp) hS0 ?_
  simp only [Act.put, List.setIfInBounds_toArray, List.set_cons_zero, List.set_cons_succ]
  refine take_at 3 (some 34) (.pointer (some ⟨b, 301, none⟩)) rfl rfl (by kernel_rfl) (by kernel_rfl) (by kernel_rfl) (fun _ _ _ h => h) (by rfl) (fun W hSw => by obtain ⟨q0, q1⟩ := hSw; go_simp) hS0 ?_
  simp only [Act.put, List.setIfInBounds_toArray, List.set_cons_zero, List.set_cons_succ]
  refine take_at 4 (some 35) (.int .i64 c) rfl rfl (by kernel_rfl) (by kernel_rfl) (by kernel_rfl) (fun _ _ _ h => h) (by rfl) (fun W hSw => by obtain ⟨q0, q1⟩ := hSw; go_simp) hS0 ?_
  simp only [Act.put, List.setIfInBounds_toArray, List.set_cons_zero, List.set_cons_succ]
  refine take_at 5 (some 36) (.bool true) rfl rfl (by kernel_rfl) (by kernel_rfl) (by kernel_rfl) (fun _ _ _ h => h) (by rfl) (fun W hSw => by obtain ⟨q0, q1⟩ := hSw; go_simp; omega) hS0 ?_
  simp only [Act.put, List.setIfInBounds_toArray, List.set_cons_zero, List.set_cons_succ]
  refine take_at 6 (some 37) (.bool true) rfl rfl (by kernel_rfl) (by kernel_rfl) (by kernel_rfl) (fun _ _ _ h => h) (by rfl) (fun W hSw => by obtain ⟨q0, q1⟩ := hSw; go_simp) hS0 ?_
  simp only [Act.put, List.setIfInBounds_toArray, List.set_cons_zero, List.set_cons_succ]
  refine take_at 7 (some 38) (.pointer (some ⟨w.heap.size, 0, none⟩)) rfl rfl (by kernel_rfl) (by kernel_rfl) (by kernel_rfl) (fun _ _ _ h => h) (by rfl) (fun W hSw => by obtain ⟨q0, q1⟩ := hSw; go_simp) hS0 ?_
  simp only [Act.put, List.setIfInBounds_toArray, List.set_cons_zero, List.set_cons_succ]
  refine take_at 8 (some 39) (.int .i64 t) rfl rfl (by kernel_rfl) (by kernel_rfl) (by kernel_rfl) (fun _ _ _ h => h) (by rfl) (fun W hSw => by obtain ⟨q0, q1⟩ := hSw; go_simp) hS0 ?_
  simp only [Act.put, List.setIfInBounds_toArray, List.set_cons_zero, List.set_cons_succ]
  refine take_at 9 (some 40) (.pointer (some ⟨b, 0, none⟩)) rfl rfl (by kernel_rfl) (by kernel_rfl) (by kernel_rfl) (fun _ _ _ h => h) (by rfl) (fun W hSw => by obtain ⟨q0, q1⟩ := hSw; go_simp) hS0 ?_
  simp only [Act.put, List.setIfInBounds_toArray, List.set_cons_zero, List.set_cons_succ]
  refine take_at 10 (some 41) (.pointer (some ⟨b, 0, none⟩)) rfl rfl (by kernel_rfl) (by kernel_rfl) (by kernel_rfl) (fun _ _ _ h => h) (by rfl) (fun W hSw => by obtain ⟨q0, q1⟩ := hSw; go_simp) hS0 ?_
  simp only [Act.put, List.setIfInBounds_toArray, List.set_cons_zero, List.set_cons_succ]
  refine take_at 11 (some 42) (.pointer (some ⟨b, 0, none⟩)) rfl rfl (by kernel_rfl) (by kernel_rfl) (by kernel_rfl) (fun _ _ _ h => h) (by rfl) (fun W hSw => by obtain ⟨q0, q1⟩ := hSw; go_simp) hS0 ?_
  simp only [Act.put, List.setIfInBounds_toArray, List.set_cons_zero, List.set_cons_succ]
  refine wpAnyH_ready (rs := [12]) (by kernel_rfl) (by simp) ?_
  refine AllReadyH.cons rfl (fun K hK => ?_) AllReadyH.nil
  go_simp
  refine (hla _ hR1).mono ?_
  rintro e w3 ⟨rfl, hb3⟩
  have hS1 := (⟨(hb3.cell (World.block_lt_of_cell? _ _ i3)).trans i3, (hx1.later hb3).c0⟩ : (fun W : World => W.cell? ⟨b, 301, none⟩ = some (Value.int .i64 c) ∧ W.cell? ⟨w.heap.size, 0, none⟩ = some (Value.int .i64 t)) w3)
  refine hK.out _ _ hS1 (fun _ => ?_)
  clear hK K
  refine take_at 13 (some 44) (.int .i64 xt) rfl rfl (by kernel_rfl) (by kernel_rfl) (by kernel_rfl) (fun _ _ _ h => h) (by rfl) (fun W hSw => by obtain ⟨q0, q1⟩ := hSw; go_simp) hS1 ?_
  simp only [Act.put, List.setIfInBounds_toArray, List.set_cons_zero, List.set_cons_succ]
  have hR2 := hR1.later hb3
  have hx2 := hx1.later hb3
  have hb2 := Below.chain hba1 hb3
  clear hla hR1 hx1 hba1 hRa hxa hba i3 i3w
  obtain ⟨c0, c1, c2, f0, f1, f2⟩ := id hx2
  by_cases c5 : t ≤ xt
  ·
   have HE : Hid (adE l k now t = 150) := adE_old HO.out ⟨hl0, by rw [HX.out]; exact c5⟩
   have d5 := c5
   clear c4 c5
   refine take_at 14 (some 45) (.bool true) rfl rfl (by kernel_rfl) (by kernel_rfl) (by kernel_rfl) (fun _ _ _ h => h) (by rfl) (fun W hSw => by obtain ⟨q0, q1⟩ := hSw; go_simp) hS1 ?_
   simp only [Act.put, List.setIfInBounds_toArray, List.set_cons_zero, List.set_cons_succ]
   refine take_at 15 (some 46) (.bool true) rfl rfl (by kernel_rfl) (by kernel_rfl) (by kernel_rfl) (fun _ _ _ h => h) (by rfl) (fun W hSw => by obtain ⟨q0, q1⟩ := hSw; go_simp) hS1 ?_
   simp only [Act.put, List.setIfInBounds_toArray, List.set_cons_zero, List.set_cons_succ]
   refine wpAnyH_done (by kernel_rfl) ?_ _
   refine NoPanic.normal ?_
   go_wp2
   go_ret
   exact ⟨by rw [HE.out]; rfl, by rw [HA.out, HE.out, if_neg (by decide), HR.out]; exact hR2, grown_below hb2 (some b)⟩
  ·
   have HE : Hid (adE l k now t = 0) := adE_ok HO.out (fun e => c5 (by have := e.2; rw [HX.out] at this; exact this))
   have hlen : r.length < 100 := HLen.out (fun e => c5 (by have := e.2; exact this))
   have d5 := c5
   clear c4 c5
   refine take_at 14 (some 45) (.bool false) rfl rfl (by kernel_rfl) (by kernel_rfl) (by kernel_rfl) (fun _ _ _ h => h) (by rfl) (fun W hSw => by obtain ⟨q0, q1⟩ := hSw; go_simp) hS1 ?_
   simp only [Act.put, List.setIfInBounds_toArray, List.set_cons_zero, List.set_cons_succ]
   refine take_at 15 (some 46) (.bool false) rfl rfl (by kernel_rfl) (by kernel_rfl) (by kernel_rfl) (fun _ _ _ h => h) (by rfl) (fun W hSw => by obtain ⟨q0, q1⟩ := hSw; go_simp) hS1 ?_
   simp only [Act.put, List.setIfInBounds_toArray, List.set_cons_zero, List.set_cons_succ]
   refine wpAnyH_done (by kernel_rfl) ?_ _
   refine NoPanic.normal ?_
   generalize w3 = w2 at *
   go_wp2_with fail
   refine (is_any o n _).mono ?_
   rintro e w3 ⟨rfl, hb3⟩
   have hx3 := hx2.later hb3
   have hR3 := hR2.later hb3
   have hb4 := Below.chain hb2 hb3
   clear hR2 hx2 hb2
   cases hi : fIs o n with
   | true =>
    obtain ⟨n1, n2⟩ := is_cnt hi
    have HN : Hid (nrm (t, o, n) = (t, o, n)) := by show (t, ov (cnt o n), nn (cnt o n)) = _; rw [n1, n2]
    have HT := HKP.out (t, o, n)
    clear n1 n2
    have hx4 := hx3
    have hR4 := hR3
    have hb5 := hb4
    clear hx3 hR3 hb4
    generalize w3 = w4 at *
    have i7 : w4.cell? ⟨b, 304, none⟩ = some (.bool true) := by obtain ⟨f, o, ho, hl, hr, hf⟩ := hR4; exact hr.cg
    have HR2 : Hid (R64 (t, o, n).2.2) := hr
    go_wp2_with fail
    have hR5 : Rl w4.drew b r k now true := hR4.later (Below.refl _ _).drew
    have hx5 : BoxS w4.drew w.heap.size (t, o, n) := hx4.later (Below.refl _ _).drew
    have hS0 : (fun W : World => W.cell? ⟨w.heap.size, 0, none⟩ = some (Value.int .i64 t) ∧ W.cell? ⟨w.heap.size, 1, none⟩ = some (Value.bool o) ∧ W.cell? ⟨w.heap.size, 2, none⟩ = some (Value.int .i64 n)) _ := ⟨hx5.c0, hx5.c1, hx5.c2⟩
    refine wp_region_noPanic ?_
    refine wp_region_held_drew (S := fun W : World => W.cell? ⟨w.heap.size, 0, none⟩ = some (Value.int .i64 t) ∧ W.cell? ⟨w.heap.size, 1, none⟩ = some (Value.bool o) ∧ W.cell? ⟨w.heap.size, 2, none⟩ = some (Value.int .i64 n)) (by kernel_rfl) hS0 (fun _ => ?_)
    refine take_at 0 (some 57) (.pointer (some ⟨b, 0, none⟩)) rfl rfl (by kernel_rfl) (by kernel_rfl) (by kernel_rfl) (fun _ _ _ h => h) (by rfl) (fun W hSw => by obtain ⟨q0, q1, q2⟩ := hSw; go_simp) hS0 ?_
    simp only [Act.put, List.setIfInBounds_toArray, List.set_cons_zero, List.set_cons_succ]
    refine take_at 1 (some 58) (.pointer (some ⟨b, 0, none⟩)) rfl rfl (by kernel_rfl) (by kernel_rfl) (by kernel_rfl) (fun _ _ _ h => h) (by rfl) (fun W hSw => by obtain ⟨q0, q1, q2⟩ := hSw; go_simp) hS0 ?_
    simp only [Act.put, List.setIfInBounds_toArray, List.set_cons_zero, List.set_cons_succ]
    refine take_at 2 (some 59) (.pointer (some ⟨b, 0, none⟩)) rfl rfl (by kernel_rfl) (by kernel_rfl) (by kernel_rfl) (fun _ _ _ h => h) (by rfl) (fun W hSw => by obtain ⟨q0, q1, q2⟩ := hSw; go_simp) hS0 ?_
    simp only [Act.put, List.setIfInBounds_toArray, List.set_cons_zero, List.set_cons_succ]
    refine take_at 3 (some 60) (.agg #[.pointer (some ⟨b, 0, none⟩)]) rfl rfl (by kernel_rfl) (by kernel_rfl) (by kernel_rfl) (fun _ _ _ h => h) (by rfl) (fun W hSw => by obtain ⟨q0, q1, q2⟩ := hSw; go_simp) hS0 ?_
    simp only [Act.put, List.setIfInBounds_toArray, List.set_cons_zero, List.set_cons_succ]
    refine take_at 4 (some 61) (.agg #[.int .i64 t, .bool o, .int .i64 n]) rfl rfl (by kernel_rfl) (by kernel_rfl) (by kernel_rfl) (fun _ _ _ h => h) (by rfl) (fun W hSw => by obtain ⟨q0, q1, q2⟩ := hSw; go_simp) hS0 ?_
    simp only [Act.put, List.setIfInBounds_toArray, List.set_cons_zero, List.set_cons_succ]
    refine wpAnyH_ready (rs := [5]) (by kernel_rfl) (by simp) ?_
    refine AllReadyH.cons rfl (fun K hK => ?_) AllReadyH.nil
    go_simp
    refine (adder_G b r k now true (t, o, n) _ hR5 HPD.out HRR.out HR2.out hlen).mono ?_
    rintro e w6 ⟨rfl, hR6, hg6⟩
    have hx6 := hx5.kept hg6 (by simp; omega)
    have hS1 := (⟨hx6.c0, hx6.c1, hx6.c2⟩ : (fun W : World => W.cell? ⟨w.heap.size, 0, none⟩ = some (Value.int .i64 t) ∧ W.cell? ⟨w.heap.size, 1, none⟩ = some (Value.bool o) ∧ W.cell? ⟨w.heap.size, 2, none⟩ = some (Value.int .i64 n)) w6)
    refine hK.out _ _ hS1 (fun _ => ?_)
    clear hK K
    refine wpAnyH_done (by kernel_rfl) ?_ _
    refine NoPanic.normal ?_
    go_wp2
    go_ret
    exact ⟨by rw [HE.out]; rfl, by rw [HA.out, HE.out, if_pos rfl, HN.out, HT.out]; exact hR6, (grown_below (hb5.trans (Below.refl _ _).drew) (some b)).trans hg6⟩
   | false =>
    have HN : Hid (nrm (t, o, n) = (t, true, 0)) := by show (t, ov (cnt o n), nn (cnt o n)) = _; rw [isnt_cnt hr.1 hi]; rfl
    have HT := HKP.out (t, true, 0)
    obtain ⟨c0, c1, c2, f0, f1, f2⟩ := id hx3
    have hx4 : BoxS ((w3.setCell ⟨w.heap.size, 1, none⟩ (.bool true)).setCell ⟨w.heap.size, 2, none⟩ (.int .i64 0)) w.heap.size (t, true, 0) := hx3.putV true 0
    have hR4 : Rl ((w3.setCell ⟨w.heap.size, 1, none⟩ (.bool true)).setCell ⟨w.heap.size, 2, none⟩ (.int .i64 0)) b r k now true := hR3.kept ((grown_set _ _ _ _).trans (grown_set _ _ _ _)) (by simp; omega)
    have hb5 : Below w.heap.size w ((w3.setCell ⟨w.heap.size, 1, none⟩ (.bool true)).setCell ⟨w.heap.size, 2, none⟩ (.int .i64 0)) := (hb4.setCell (p := ⟨w.heap.size, 1, none⟩) (Nat.le_refl _) _).setCell (p := ⟨w.heap.size, 2, none⟩) (Nat.le_refl _) _
    have i7 : ((w3.setCell ⟨w.heap.size, 1, none⟩ (.bool true)).setCell ⟨w.heap.size, 2, none⟩ (.int .i64 0)).cell? ⟨b, 304, none⟩ = some (.bool true) := by obtain ⟨f, o, ho, hl, hr, hf⟩ := hR4; exact hr.cg
    clear hx3 hR3 hb4
    go_wp2_with fail
    generalize (w3.setCell ⟨w.heap.size, 1, none⟩ (.bool true)).setCell ⟨w.heap.size, 2, none⟩ (.int .i64 0) = w4 at *
    have HR2 : Hid (R64 (t, true, 0).2.2) := (by show R64 0; exact ⟨by decide, by decide⟩)
    have hR5 : Rl w4.drew b r k now true := hR4.later (Below.refl _ _).drew
    have hx5 : BoxS w4.drew w.heap.size (t, true, 0) := hx4.later (Below.refl _ _).drew
    have hS0 : (fun W : World => W.cell? ⟨w.heap.size, 0, none⟩ = some (Value.int .i64 t) ∧ W.cell? ⟨w.heap.size, 1, none⟩ = some (Value.bool true) ∧ W.cell? ⟨w.heap.size, 2, none⟩ = some (Value.int .i64 0)) _ := ⟨hx5.c0, hx5.c1, hx5.c2⟩
    refine wp_region_noPanic ?_
    refine wp_region_held_drew (S := fun W : World => W.cell? ⟨w.heap.size, 0, none⟩ = some (Value.int .i64 t) ∧ W.cell? ⟨w.heap.size, 1, none⟩ = some (Value.bool true) ∧ W.cell? ⟨w.heap.size, 2, none⟩ = some (Value.int .i64 0)) (by kernel_rfl) hS0 (fun _ => ?_)
    refine take_at 0 (some 57) (.pointer (some ⟨b, 0, none⟩)) rfl rfl (by kernel_rfl) (by kernel_rfl) (by kernel_rfl) (fun _ _ _ h => h) (by rfl) (fun W hSw => by obtain ⟨q0, q1, q2⟩ := hSw; go_simp) hS0 ?_
    simp only [Act.put, List.setIfInBounds_toArray, List.set_cons_zero, List.set_cons_succ]
    refine take_at 1 (some 58) (.pointer (some ⟨b, 0, none⟩)) rfl rfl (by kernel_rfl) (by kernel_rfl) (by kernel_rfl) (fun _ _ _ h => h) (by rfl) (fun W hSw => by obtain ⟨q0, q1, q2⟩ := hSw; go_simp) hS0 ?_
    simp only [Act.put, List.setIfInBounds_toArray, List.set_cons_zero, List.set_cons_succ]
    refine take_at 2 (some 59) (.pointer (some ⟨b, 0, none⟩)) rfl rfl (by kernel_rfl) (by kernel_rfl) (by kernel_rfl) (fun _ _ _ h => h) (by rfl) (fun W hSw => by obtain ⟨q0, q1, q2⟩ := hSw; go_simp) hS0 ?_
    simp only [Act.put, List.setIfInBounds_toArray, List.set_cons_zero, List.set_cons_succ]
    refine take_at 3 (some 60) (.agg #[.pointer (some ⟨b, 0, none⟩)]) rfl rfl (by kernel_rfl) (by kernel_rfl) (by kernel_rfl) (fun _ _ _ h => h) (by rfl) (fun W hSw => by obtain ⟨q0, q1, q2⟩ := hSw; go_simp) hS0 ?_
    simp only [Act.put, List.setIfInBounds_toArray, List.set_cons_zero, List.set_cons_succ]
    refine take_at 4 (some 61) (.agg #[.int .i64 t, .bool true, .int .i64 0]) rfl rfl (by kernel_rfl) (by kernel_rfl) (by kernel_rfl) (fun _ _ _ h => h) (by rfl) (fun W hSw => by obtain ⟨q0, q1, q2⟩ := hSw; go_simp) hS0 ?_
    simp only [Act.put, List.setIfInBounds_toArray, List.set_cons_zero, List.set_cons_succ]
    refine wpAnyH_ready (rs := [5]) (by kernel_rfl) (by simp) ?_
    refine AllReadyH.cons rfl (fun K hK => ?_) AllReadyH.nil
    go_simp
    refine (adder_G b r k now true (t, true, 0) _ hR5 HPD.out HRR.out HR2.out hlen).mono ?_
    rintro e w6 ⟨rfl, hR6, hg6⟩
    have hx6 := hx5.kept hg6 (by simp; omega)
    have hS1 := (⟨hx6.c0, hx6.c1, hx6.c2⟩ : (fun W : World => W.cell? ⟨w.heap.size, 0, none⟩ = some (Value.int .i64 t) ∧ W.cell? ⟨w.heap.size, 1, none⟩ = some (Value.bool true) ∧ W.cell? ⟨w.heap.size, 2, none⟩ = some (Value.int .i64 0)) w6)
    refine hK.out _ _ hS1 (fun _ => ?_)
    clear hK K
    refine wpAnyH_done (by kernel_rfl) ?_ _
    refine NoPanic.normal ?_
    go_wp2
    go_ret
    exact ⟨by rw [HE.out]; rfl, by rw [HA.out, HE.out, if_pos rfl, HN.out, HT.out]; exact hR6, (grown_below (hb5.trans (Below.refl _ _).drew) (some b)).trans hg6⟩
theorem add_anyG (b : Nat) (l : List Smp) (k now : Int) (s : Smp) (w : World) (h : Rl w b (thn (kg true) l) k now true) (hw : Wf l k now) (hr : R64 s.2.2) :
  Calls Tryz.prog 180 #[.pointer (some ⟨b, 0, none⟩), sv s] w fun e w' => e = .returned (.int .i64 (adE l k now s.1)) ∧ Rl w' b (thn (kg true) (adL l k now s)) k now true ∧ w.grownBy w' (some b) := by
 by_cases ho : s.1 < 0 ∨ now < s.1 ∨ s.1 ≤ now - k
 ·
  have e : adE l k now s.1 = 152 := adE_out ho
  rw [show adL l k now s = l by unfold adL; rw [e, if_neg (by decide)], e]
  exact (add_out b _ k now true s w h hw.k1 hw.n1 ho).mono fun e w' ⟨h1, h2⟩ => ⟨h1, h.later h2, grown_below h2 _⟩
 ·
  exact add_inG b l k now s w h hw hr ho
end Go.Proofs.YtjgckfcocmhnhaaGreatDoor.Ex
namespace Go.Proofs.YtjgckfcocmhnhaaGreatDoor.Ex
open Go.RowKit
set_option maxHeartbeats 1000000 in
theorem put_L (b p : Nat) (l : List Smp) (k now : Int) (g : Bool) (s : Smp) (w : World) (h : Rl w b l k now g) (hd : l.Pairwise (fun a b => kg false b < kg false a)) (hr : ∀ x ∈ l, R64 x.2.2) (hs : R64 s.2.2) (hlen : l.length < 100) (hx : BoxS w p s) (hpb : p ≠ b) :
  Calls Tryz.prog 186 #[.pointer (some ⟨b, 0, none⟩), sv s, .func (.func 188) #[] #[.pointer (some ⟨p, 0, none⟩)]] w fun e w' => e = .returned (.tuple #[]) ∧ Rl w' b (kp (kg false) s l ++ [s]) k now g ∧ w.grownBy w' (some b) := by
 have hfd := field_v
 have hb1 := bal (Below.refl _ w) (.cells #[.int .i64 s.1, .bool s.2.1, .int .i64 s.2.2] 35)
 have h1 := h.later hb1
 have hx1 := hx.later hb1
 have hy1 := BoxS.new w s
 have hbn : b ≠ w.heap.size := by have := h.lt; omega
 have hbt := beat_L p s
 have HD : Hid (l.Pairwise (fun a b => kg false b < kg false a)) := hd
 have HR : Hid (∀ x ∈ l, R64 x.2.2) := hr
 clear hd hr
 go_enter Tryz.func186, Tryz.ntmps186
 go_wp2_with fail
 go_loopw [] (fun wr => ∃ r, Rl wr b r k now g ∧ kp (kg false) s r = kp (kg false) s l ∧ r.Pairwise (fun a b => kg false b < kg false a) ∧ (∀ x ∈ r, R64 x.2.2) ∧ r.length < 100 ∧ BoxS wr p s ∧ BoxS wr w.heap.size s ∧ w.grownBy wr (some b)) (fun wr => cntW wr b)
 case atStart => exact ⟨l, h1, rfl, HD.out, HR.out, hlen, hx1, hy1, grown_below hb1 _⟩
 case round =>
  obtain ⟨r, hrl, hkp, hpd, hrr, hrlen, hxp, hyp, hg⟩ := hrel
  have HK : Hid (kp (kg false) s r = kp (kg false) s l) := hkp
  have HPD : Hid (r.Pairwise (fun a b => kg false b < kg false a)) := hpd
  have HRR : Hid (∀ x ∈ r, R64 x.2.2) := hrr
  clear hkp hpd hrr h1 hx1 hy1 hb1 h hx
  rcases List.eq_nil_or_concat r with hn | ⟨r', x, hc⟩
  ·
   subst hn
   have HE : Hid (([] : List Smp) = kp (kg false) s l) := HK.out
   have i0 : wr.cell? ⟨b, 301, none⟩ = some (.int .i64 0) := by obtain ⟨f, o, ho, hl, hr, hf⟩ := hrl; exact hr.cc
   obtain ⟨f2, o2, ho2, hl2, hr2, hf2⟩ := hrl
   have HF2 : Hid (∀ i, i < ([] : List Smp).length → f2 ((o2 + i) % 100) = ([] : List Smp).getD i s0) := hf2
   have hx1 : (o2 + ([] : List Smp).length) % 100 < 100 := by omega
   have HL : Hid (([] : List Smp).length < 100) := (by show 0 < 100; omega)
   have hpl := fun W hW => place_cell b o2 ([] : List Smp).length W hW ho2 (by have := HL.out; omega)
   clear hf2 hl2
   generalize hmm2 : ([] : List Smp).length = m2 at *
   have HM2 : Hid _ := hmm2
   clear hmm2
   generalize hxx : (o2 + m2) % 100 = x2 at *
   have HX2 : Hid _ := hxx
   clear hxx
   go_wp2_with fail
   have hr3 : Rg wr.drew b f2 o2 m2 k now g := hr2.later (Below.refl _ _).drew
   have hx3 : BoxS wr.drew w.heap.size s := hyp.later (Below.refl _ _).drew
   have hg3 : w.grownBy wr.drew (some b) := hg.trans (grown_below (Below.refl _ _).drew (some b))
   have hc0 : wr.cell? ⟨b, x2 * 3, none⟩ = _ := hr2.ct x2 hx1
   have hc1 : wr.cell? ⟨b, x2 * 3 + 1, none⟩ = _ := hr2.cv x2 hx1
   have hc2 : wr.cell? ⟨b, x2 * 3 + 2, none⟩ = _ := hr2.cn x2 hx1
   have g0 := hr2.fz (x2 * 3) (by omega)
   have g1 := hr2.fz (x2 * 3 + 1) (by omega)
   have g2 := hr2.fz (x2 * 3 + 2) (by omega)
   clear hr2 hyp hg
   have hr4 := hr3.put hx1 s
   have hx4 := hx3.kept (grown3 wr.drew b (x2 * 3) s) (by simp; omega)
   have hg4 := hg3.trans (grown3 wr.drew b (x2 * 3) s)
   have i1 := hr3.cc
   have i2 := hr3.co
   obtain ⟨d0, d1, d2, _, _, _⟩ := id hx3
   have hS0 : (fun W : World => W.cell? ⟨b, 300, none⟩ = some (Value.int .i64 o2) ∧ W.cell? ⟨b, 301, none⟩ = some (Value.int .i64 m2) ∧ W.cell? ⟨w.heap.size, 0, none⟩ = some (Value.int .i64 s.1) ∧ W.cell? ⟨w.heap.size, 1, none⟩ = some (Value.bool s.2.1) ∧ W.cell? ⟨w.heap.size, 2, none⟩ = some (Value.int .i64 s.2.2)) _ := ⟨i2, i1, d0, d1, d2⟩
   refine wp_region_noPanic ?_
   refine wp_region_held_drew (S := fun W : World => W.cell? ⟨b, 300, none⟩ = some (Value.int .i64 o2) ∧ W.cell? ⟨b, 301, none⟩ = some (Value.int .i64 m2) ∧ W.cell? ⟨w.heap.size, 0, none⟩ = some (Value.int .i64 s.1) ∧ W.cell? ⟨w.heap.size, 1, none⟩ = some (Value.bool s.2.1) ∧ W.cell? ⟨w.heap.size, 2, none⟩ = some (Value.int .i64 s.2.2)) (by kernel_rfl) hS0 (fun _ => ?_)
   refine take_at 0 (some 25) (.pointer (some ⟨b, 0, none⟩)) rfl rfl (by kernel_rfl) (by kernel_rfl) (by kernel_rfl) (fun _ _ _ h => h) (by rfl) (fun W hSw => by obtain ⟨q0, q1, q2, q3, q4⟩ := hSw; go_simp) hS0 ?_
   simp only [Act.put, List.setIfInBounds_toArray, List.set_cons_zero, List.set_cons_succ]
   refine take_at 1 (some 26) (.pointer (some ⟨b, 0, none⟩)) rfl rfl (by kernel_rfl) (by kernel_rfl) (by kernel_rfl) (fun _ _ _ h => h) (by rfl) (fun W hSw => by obtain ⟨q0, q1, q2, q3, q4⟩ := hSw; go_simp) hS0 ?_
   simp only [Act.put, List.setIfInBounds_toArray, List.set_cons_zero, List.set_cons_succ]
   refine take_at 2 (some 27) (.pointer (some ⟨b, 0, none⟩)) rfl rfl (by kernel_rfl) (by kernel_rfl) (by kernel_rfl) (fun _ _ _ h => h) (by rfl) (fun W hSw => by obtain ⟨q0, q1, q2, q3, q4⟩ := hSw; go_simp) hS0 ?_
   simp only [Act.put, List.setIfInBounds_toArray, List.set_cons_zero, List.set_cons_succ]
   refine take_at 3 (some 28) (.pointer (some ⟨b, 0, none⟩)) rfl rfl (by kernel_rfl) (by kernel_rfl) (by kernel_rfl) (fun _ _ _ h => h) (by rfl) (fun W hSw => by obtain ⟨q0, q1, q2, q3, q4⟩ := hSw; go_simp) hS0 ?_
   simp only [Act.put, List.setIfInBounds_toArray, List.set_cons_zero, List.set_cons_succ]
   refine take_at 4 (some 29) (.pointer (some ⟨b, 301, none⟩)) rfl rfl (by kernel_rfl) (by kernel_rfl) (by kernel_rfl) (fun _ _ _ h => h) (by rfl) (fun W hSw => by obtain ⟨q0, q1, q2, q3, q4⟩ := hSw; go_simp) hS0 ?_
   simp only [Act.put, List.setIfInBounds_toArray, List.set_cons_zero, List.set_cons_succ]
   refine take_at 5 (some 30) (.int .i64 m2) rfl rfl (by kernel_rfl) (by kernel_rfl) (by kernel_rfl) (fun _ _ _ h => h) (by rfl) (fun W hSw => by obtain ⟨q0, q1, q2, q3, q4⟩ := hSw; go_simp) hS0 ?_
   simp only [Act.put, List.setIfInBounds_toArray, List.set_cons_zero, List.set_cons_succ]
   refine take_at 7 (some 32) (sv s) rfl rfl (by kernel_rfl) (by kernel_rfl) (by kernel_rfl) (fun _ _ _ h => h) (by rfl) (fun W hSw => by obtain ⟨q0, q1, q2, q3, q4⟩ := hSw; go_simp) hS0 ?_
   simp only [Act.put, List.setIfInBounds_toArray, List.set_cons_zero, List.set_cons_succ]
   refine take_at 8 (some 33) (.pointer (some ⟨b, 0, none⟩)) rfl rfl (by kernel_rfl) (by kernel_rfl) (by kernel_rfl) (fun _ _ _ h => h) (by rfl) (fun W hSw => by obtain ⟨q0, q1, q2, q3, q4⟩ := hSw; go_simp) hS0 ?_
   simp only [Act.put, List.setIfInBounds_toArray, List.set_cons_zero, List.set_cons_succ]
   refine take_at 9 (some 34) (.pointer (some ⟨b, 0, none⟩)) rfl rfl (by kernel_rfl) (by kernel_rfl) (by kernel_rfl) (fun _ _ _ h => h) (by rfl) (fun W hSw => by obtain ⟨q0, q1, q2, q3, q4⟩ := hSw; go_simp) hS0 ?_
   simp only [Act.put, List.setIfInBounds_toArray, List.set_cons_zero, List.set_cons_succ]
   refine wpAnyH_ready (rs := [6]) (by kernel_rfl) (by simp) ?_
   refine AllReadyH.cons rfl (fun K hK => ?_) AllReadyH.nil
   go_simp
   refine (hpl _ i2).mono ?_
   rintro e w' ⟨rfl, rfl⟩
   have hS1 := (⟨i2, i1, d0, d1, d2⟩ : (fun W : World => W.cell? ⟨b, 300, none⟩ = some (Value.int .i64 o2) ∧ W.cell? ⟨b, 301, none⟩ = some (Value.int .i64 m2) ∧ W.cell? ⟨w.heap.size, 0, none⟩ = some (Value.int .i64 s.1) ∧ W.cell? ⟨w.heap.size, 1, none⟩ = some (Value.bool s.2.1) ∧ W.cell? ⟨w.heap.size, 2, none⟩ = some (Value.int .i64 s.2.2)) _)
   refine hK.out _ _ hS1 (fun _ => ?_)
   clear hK K
   refine take_at 10 (some 35) (.pointer (some ⟨b, x2 * 3, none⟩)) rfl rfl (by kernel_rfl) (by kernel_rfl) (by kernel_rfl) (fun _ _ _ h => h) (by rfl) (fun W hSw => by obtain ⟨q0, q1, q2, q3, q4⟩ := hSw; go_simp; intro hh; exfalso; omega) hS1 ?_
   simp only [Act.put, List.setIfInBounds_toArray, List.set_cons_zero, List.set_cons_succ]
   refine wpAnyH_ready (rs := [11]) (by kernel_rfl) (by simp) ?_
   refine AllReadyH.cons rfl (fun K hK => ?_) AllReadyH.nil
   go_simp
   have hS2 := (⟨hr4.co, hr4.cc, hx4.c0, hx4.c1, hx4.c2⟩ : (fun W : World => W.cell? ⟨b, 300, none⟩ = some (Value.int .i64 o2) ∧ W.cell? ⟨b, 301, none⟩ = some (Value.int .i64 m2) ∧ W.cell? ⟨w.heap.size, 0, none⟩ = some (Value.int .i64 s.1) ∧ W.cell? ⟨w.heap.size, 1, none⟩ = some (Value.bool s.2.1) ∧ W.cell? ⟨w.heap.size, 2, none⟩ = some (Value.int .i64 s.2.2)) _)
   refine hK.out _ _ hS2 (fun _ => ?_)
   clear hK K
   refine wpAnyH_done (by kernel_rfl) ?_ _
   refine NoPanic.normal ?_
   change Exit.then _ _ Exit.normal _ (set3 wr.drew b (x2 * 3) s)
   generalize set3 wr.drew b (x2 * 3) s = wb at *
   have k1 := hr4.cc
   have k2 := hr4.fz 301 (by omega)
   have e1 : wrap64 ((m2 : Int) + 1) = ((m2 + 1 : Nat) : Int) := by have := HL.out; unfold wrap64; omega
   clear hS0 hS1 hS2
   go_wp2
   go_end0
   refine ⟨rfl, ?_, hg4.trans (grown_set _ _ _ _)⟩
   rw [← HE.out]
   have hq : Rg (wb.setCell ⟨b, 301, none⟩ (.int .i64 ((m2 : Int) + 1))) b (fun j => if j = x2 then s else f2 j) o2 (m2 + 1) k now g := hr4.setC (m2 + 1)
   exact Rl.push (f := f2) ho2 (by rw [HM2.out]; exact HL.out) (by rw [HM2.out]; exact HF2.out) (by rw [HM2.out, HX2.out]; exact hq)
  ·
   rw [List.concat_eq_append] at hc
   have hne : r ≠ [] := by rw [hc]; simp
   have hla := last_any b r k now g wr hrl hne
   have hlx : lst r = x := by rw [hc, lst_snoc]
   rw [hlx] at hla
   have hrx : R64 x.2.2 := HRR.out x (by rw [hc]; simp)
   have hlr : r.length = r'.length + 1 := by rw [hc]; simp
   obtain ⟨xt, xo, xn⟩ := x
   have i1 : wr.cell? ⟨b, 301, none⟩ = some (.int .i64 ((r'.length : Int) + 1)) := by
    obtain ⟨f, o, ho, hl, hr, hf⟩ := hrl
    have := hr.cc
    rw [hlr] at this
    exact this
   have hm : cntW wr b = r'.length + 1 := by obtain ⟨f, o, ho, hl, hr, hf⟩ := hrl; rw [hr.cnt, hlr]
   have h2 : decide ((0 : Int) < (r'.length : Int) + 1) = true := decide_eq_true (by omega)
   have HC : Hid (r = r' ++ [(xt, xo, xn)]) := hc
   have HLR : Hid (r.length = r'.length + 1) := hlr
   have hl100 : r'.length + 1 < 100 := by omega
   clear hc hlr hlx hne hrlen
   generalize hm' : r'.length = m at *
   have HM : Hid (r'.length = m) := hm'
   clear hm'
   by_cases hq : kg false (xt, xo, xn) ≤ kg false s
   ·
    have dq : decide (kg false (xt, xo, xn) ≤ kg false s) = true := decide_eq_true hq
    have HK2 : Hid (kp (kg false) s r' = kp (kg false) s l) := by show _ = _; rw [← HK.out, HC.out, kp_pop hq]
    clear hq
    go_wp2_with fail
    refine hla.mono ?_
    rintro e w1 ⟨rfl, hb1⟩
    go_wp2_with fail
    refine (hbt xt xo xn w1 (hxp.later hb1) hrx hs).mono ?_
    rintro e w2 ⟨rfl, hb2⟩
    rw [dq]
    have hb3 := Below.chain hb1 hb2
    have hrl2 := hrl.later hb3
    have hxp2 := hxp.later hb3
    have hyp2 := hyp.later hb3
    have hg2 := hg.trans (grown_below hb3 (some b))
    obtain ⟨f, o, ho, hl, hr, hf⟩ := hrl2
    have j1 : w2.cell? ⟨b, 301, none⟩ = some (.int .i64 ((m : Int) + 1)) := by have := hr.cc; rw [HLR.out] at this; exact this
    have j3 := hr.fz 301 (by omega)
    have e1 : wrap64 ((m : Int) + 1 - 1) = (m : Int) := by unfold wrap64; omega
    have e2 : wrap64 (m : Int) = (m : Int) := by unfold wrap64; omega
    have HF : Hid (∀ i, i < r.length → f ((o + i) % 100) = r.getD i s0) := hf
    clear hf hl hla
    go_wp2_with fail
    go_roundw
    case rel =>
     refine ⟨r', Rl.drop ho (by rw [HM.out]; omega) (s := (xt, xo, xn)) (by rw [← HC.out]; rw [HM.out]; have := HF.out; rw [HLR.out] at this; exact this) (by rw [HM.out]; exact hr.setC m), HK2.out, ?_, ?_, by rw [HM.out]; omega, hxp2.kept (grown_set _ _ _ _) (by simp; omega), hyp2.kept (grown_set _ _ _ _) (by simp; omega), hg2.trans (grown_set _ _ _ _)⟩
     ·
      have := HPD.out
      rw [HC.out] at this
      exact (List.pairwise_append.1 this).1
     ·
      exact fun y hy => HRR.out y (by rw [HC.out]; exact List.mem_append_left _ hy)
    case measure =>
     rw [(hr.setC m).cnt, hm]
     omega
   ·
    have dq : decide (kg false (xt, xo, xn) ≤ kg false s) = false := decide_eq_false hq
    have HE : Hid (r = kp (kg false) s l) := by
     show _ = _
     rw [← HK.out]
     have := HPD.out
     rw [HC.out] at this ⊢
     rw [kp_all this hq]
    have hrl100 : r.length < 100 := by rw [HLR.out]; omega
    clear hq
    go_wp2_with fail
    refine hla.mono ?_
    rintro e w1 ⟨rfl, hb1⟩
    go_wp2_with fail
    refine (hbt xt xo xn w1 (hxp.later hb1) hrx hs).mono ?_
    rintro e w2 ⟨rfl, hb2⟩
    rw [dq]
    have hb3 := Below.chain hb1 hb2
    have hrl2 := hrl.later hb3
    have hyp2 := hyp.later hb3
    have hg2 := hg.trans (grown_below hb3 (some b))
    have i4 : w2.cell? ⟨b, 301, none⟩ = some (.int .i64 ((m : Int) + 1)) := by obtain ⟨f, o, ho, hl, hr, hf⟩ := hrl2; have := hr.cc; rw [HLR.out] at this; exact this
    clear hla hrl hxp hyp hg i1
    obtain ⟨f2, o2, ho2, hl2, hr2, hf2⟩ := hrl2
    have HF2 : Hid (∀ i, i < r.length → f2 ((o2 + i) % 100) = r.getD i s0) := hf2
    have hx1 : (o2 + r.length) % 100 < 100 := by omega
    have HL : Hid (r.length < 100) := hrl100
    have hpl := fun W hW => place_cell b o2 r.length W hW ho2 (by have := HL.out; omega)
    clear hf2 hl2
    generalize hmm2 : r.length = m2 at *
    have HM2 : Hid _ := hmm2
    clear hmm2
    generalize hxx : (o2 + m2) % 100 = x2 at *
    have HX2 : Hid _ := hxx
    clear hxx
    go_wp2_with fail
    have hr3 : Rg w2.drew b f2 o2 m2 k now g := hr2.later (Below.refl _ _).drew
    have hx3 : BoxS w2.drew w.heap.size s := hyp2.later (Below.refl _ _).drew
    have hg3 : w.grownBy w2.drew (some b) := hg2.trans (grown_below (Below.refl _ _).drew (some b))
    have hc0 : w2.cell? ⟨b, x2 * 3, none⟩ = _ := hr2.ct x2 hx1
    have hc1 : w2.cell? ⟨b, x2 * 3 + 1, none⟩ = _ := hr2.cv x2 hx1
    have hc2 : w2.cell? ⟨b, x2 * 3 + 2, none⟩ = _ := hr2.cn x2 hx1
    have g0 := hr2.fz (x2 * 3) (by omega)
    have g1 := hr2.fz (x2 * 3 + 1) (by omega)
    have g2 := hr2.fz (x2 * 3 + 2) (by omega)
    clear hr2 hyp2 hg2
    have hr4 := hr3.put hx1 s
    have hx4 := hx3.kept (grown3 w2.drew b (x2 * 3) s) (by simp; omega)
    have hg4 := hg3.trans (grown3 w2.drew b (x2 * 3) s)
    have i1 := hr3.cc
    have i2 := hr3.co
    obtain ⟨d0, d1, d2, _, _, _⟩ := id hx3
    have hS0 : (fun W : World => W.cell? ⟨b, 300, none⟩ = some (Value.int .i64 o2) ∧ W.cell? ⟨b, 301, none⟩ = some (Value.int .i64 m2) ∧ W.cell? ⟨w.heap.size, 0, none⟩ = some (Value.int .i64 s.1) ∧ W.cell? ⟨w.heap.size, 1, none⟩ = some (Value.bool s.2.1) ∧ W.cell? ⟨w.heap.size, 2, none⟩ = some (Value.int .i64 s.2.2)) _ := ⟨i2, i1, d0, d1, d2⟩
    refine wp_region_noPanic ?_
    refine wp_region_held_drew (S := fun W : World => W.cell? ⟨b, 300, none⟩ = some (Value.int .i64 o2) ∧ W.cell? ⟨b, 301, none⟩ = some (Value.int .i64 m2) ∧ W.cell? ⟨w.heap.size, 0, none⟩ = some (Value.int .i64 s.1) ∧ W.cell? ⟨w.heap.size, 1, none⟩ = some (Value.bool s.2.1) ∧ W.cell? ⟨w.heap.size, 2, none⟩ = some (Value.int .i64 s.2.2)) (by kernel_rfl) hS0 (fun _ => ?_)
    refine take_at 0 (some 25) (.pointer (some ⟨b, 0, none⟩)) rfl rfl (by kernel_rfl) (by kernel_rfl) (by kernel_rfl) (fun _ _ _ h => h) (by rfl) (fun W hSw => by obtain ⟨q0, q1, q2, q3, q4⟩ := hSw; go_simp) hS0 ?_
    simp only [Act.put, List.setIfInBounds_toArray, List.set_cons_zero, List.set_cons_succ]
    refine take_at 1 (some 26) (.pointer (some ⟨b, 0, none⟩)) rfl rfl (by kernel_rfl) (by kernel_rfl) (by kernel_rfl) (fun _ _ _ h => h) (by rfl) (fun W hSw => by obtain ⟨q0, q1, q2, q3, q4⟩ := hSw; go_simp) hS0 ?_
    simp only [Act.put, List.setIfInBounds_toArray, List.set_cons_zero, List.set_cons_succ]
    refine take_at 2 (some 27) (.pointer (some ⟨b, 0, none⟩)) rfl rfl (by kernel_rfl) (by kernel_rfl) (by kernel_rfl) (fun _ _ _ h => h) (by rfl) (fun W hSw => by obtain ⟨q0, q1, q2, q3, q4⟩ := hSw; go_simp) hS0 ?_
    simp only [Act.put, List.setIfInBounds_toArray, List.set_cons_zero, List.set_cons_succ]
    refine take_at 3 (some 28) (.pointer (some ⟨b, 0, none⟩)) rfl rfl (by kernel_rfl) (by kernel_rfl) (by kernel_rfl) (fun _ _ _ h => h) (by rfl) (fun W hSw => by obtain ⟨q0, q1, q2, q3, q4⟩ := hSw; go_simp) hS0 ?_
    simp only [Act.put, List.setIfInBounds_toArray, List.set_cons_zero, List.set_cons_succ]
    refine take_at 4 (some 29) (.pointer (some ⟨b, 301, none⟩)) rfl rfl (by kernel_rfl) (by kernel_rfl) (by kernel_rfl) (fun _ _ _ h => h) (by rfl) (fun W hSw => by obtain ⟨q0, q1, q2, q3, q4⟩ := hSw; go_simp) hS0 ?_
    simp only [Act.put, List.setIfInBounds_toArray, List.set_cons_zero, List.set_cons_succ]
    refine take_at 5 (some 30) (.int .i64 m2) rfl rfl (by kernel_rfl) (by kernel_rfl) (by kernel_rfl) (fun _ _ _ h => h) (by rfl) (fun W hSw => by obtain ⟨q0, q1, q2, q3, q4⟩ := hSw; go_simp) hS0 ?_
    simp only [Act.put, List.setIfInBounds_toArray, List.set_cons_zero, List.set_cons_succ]
    refine take_at 7 (some 32) (sv s) rfl rfl (by kernel_rfl) (by kernel_rfl) (by kernel_rfl) (fun _ _ _ h => h) (by rfl) (fun W hSw => by obtain ⟨q0, q1, q2, q3, q4⟩ := hSw; go_simp) hS0 ?_
    simp only [Act.put, List.setIfInBounds_toArray, List.set_cons_zero, List.set_cons_succ]
    refine take_at 8 (some 33) (.pointer (some ⟨b, 0, none⟩)) rfl rfl (by kernel_rfl) (by kernel_rfl) (by kernel_rfl) (fun _ _ _ h => h) (by rfl) (fun W hSw => by obtain ⟨q0, q1, q2, q3, q4⟩ := hSw; go_simp) hS0 ?_
    simp only [Act.put, List.setIfInBounds_toArray, List.set_cons_zero, List.set_cons_succ]
    refine take_at 9 (some 34) (.pointer (some ⟨b, 0, none⟩)) rfl rfl (by kernel_rfl) (by kernel_rfl) (by kernel_rfl) (fun _ _ _ h => h) (by rfl) (fun W hSw => by obtain ⟨q0, q1, q2, q3, q4⟩ := hSw; go_simp) hS0 ?_
    simp only [Act.put, List.setIfInBounds_toArray, List.set_cons_zero, List.set_cons_succ]
    refine wpAnyH_ready (rs := [6]) (by kernel_rfl) (by simp) ?_
    refine AllReadyH.cons rfl (fun K hK => ?_) AllReadyH.nil
    go_simp
    refine (hpl _ i2).mono ?_
    rintro e w' ⟨rfl, rfl⟩
    have hS1 := (⟨i2, i1, d0, d1, d2⟩ : (fun W : World => W.cell? ⟨b, 300, none⟩ = some (Value.int .i64 o2) ∧ W.cell? ⟨b, 301, none⟩ = some (Value.int .i64 m2) ∧ W.cell? ⟨w.heap.size, 0, none⟩ = some (Value.int .i64 s.1) ∧ W.cell? ⟨w.heap.size, 1, none⟩ = some (Value.bool s.2.1) ∧ W.cell? ⟨w.heap.size, 2, none⟩ = some (Value.int .i64 s.2.2)) _)
    refine hK.out _ _ hS1 (fun _ => ?_)
    clear hK K
    refine take_at 10 (some 35) (.pointer (some ⟨b, x2 * 3, none⟩)) rfl rfl (by kernel_rfl) (by kernel_rfl) (by kernel_rfl) (fun _ _ _ h => h) (by rfl) (fun W hSw => by obtain ⟨q0, q1, q2, q3, q4⟩ := hSw; go_simp; intro hh; exfalso; omega) hS1 ?_
    simp only [Act.put, List.setIfInBounds_toArray, List.set_cons_zero, List.set_cons_succ]
    refine wpAnyH_ready (rs := [11]) (by kernel_rfl) (by simp) ?_
    refine AllReadyH.cons rfl (fun K hK => ?_) AllReadyH.nil
    go_simp
    have hS2 := (⟨hr4.co, hr4.cc, hx4.c0, hx4.c1, hx4.c2⟩ : (fun W : World => W.cell? ⟨b, 300, none⟩ = some (Value.int .i64 o2) ∧ W.cell? ⟨b, 301, none⟩ = some (Value.int .i64 m2) ∧ W.cell? ⟨w.heap.size, 0, none⟩ = some (Value.int .i64 s.1) ∧ W.cell? ⟨w.heap.size, 1, none⟩ = some (Value.bool s.2.1) ∧ W.cell? ⟨w.heap.size, 2, none⟩ = some (Value.int .i64 s.2.2)) _)
    refine hK.out _ _ hS2 (fun _ => ?_)
    clear hK K
    refine wpAnyH_done (by kernel_rfl) ?_ _
    refine NoPanic.normal ?_
    change Exit.then _ _ Exit.normal _ (set3 w2.drew b (x2 * 3) s)
    generalize set3 w2.drew b (x2 * 3) s = wb at *
    have k1 := hr4.cc
    have k2 := hr4.fz 301 (by omega)
    have e1 : wrap64 ((m2 : Int) + 1) = ((m2 + 1 : Nat) : Int) := by have := HL.out; unfold wrap64; omega
    clear hS0 hS1 hS2
    go_wp2
    go_end0
    refine ⟨rfl, ?_, hg4.trans (grown_set _ _ _ _)⟩
    rw [← HE.out]
    have hq : Rg (wb.setCell ⟨b, 301, none⟩ (.int .i64 ((m2 : Int) + 1))) b (fun j => if j = x2 then s else f2 j) o2 (m2 + 1) k now g := hr4.setC (m2 + 1)
    exact Rl.push (f := f2) ho2 (by rw [HM2.out]; exact HL.out) (by rw [HM2.out]; exact HF2.out) (by rw [HM2.out, HX2.out]; exact hq)
set_option maxHeartbeats 2000000 in
theorem adder_L (b : Nat) (l : List Smp) (k now : Int) (g : Bool) (s : Smp) (w : World) (h : Rl w b l k now g) (hd : l.Pairwise (fun a b => kg false b < kg false a)) (hr : ∀ x ∈ l, R64 x.2.2) (hs : R64 s.2.2) (hlen : l.length < 100) :
  Calls Tryz.prog 184 #[.agg #[.pointer (some ⟨b, 0, none⟩)], sv s] w fun e w' => e = .returned (.tuple #[]) ∧ Rl w' b (kp (kg false) s l ++ [s]) k now g ∧ w.grownBy w' (some b) := by
 have hmf : ∀ (fn : Fn) (first cap : Array Value) (w : World), (Instr.makeFunc fn first cap).run Tryz.prog w = .ok (.func fn first cap) w := fun _ _ _ _ => rfl
 have hb1 := bal (Below.refl _ w) (.cells #[.pointer (some ⟨b, 0, none⟩)] 207)
 have hb2 := bal hb1 (.cells #[.int .i64 s.1, .bool s.2.1, .int .i64 s.2.2] 35)
 have hp : (((w.alloc (.cells #[.pointer (some ⟨b, 0, none⟩)] 207)).alloc (.cells #[.int .i64 s.1, .bool s.2.1, .int .i64 s.2.2] 35)).cell? ⟨w.heap.size, 0, none⟩) = some (.pointer (some ⟨b, 0, none⟩)) := by
  rw [World.cell?_alloc_past _ _ _ (by simp), World.cell?_alloc_new]; rfl
 have hx := BoxS.new (w.alloc (.cells #[.pointer (some ⟨b, 0, none⟩)] 207)) s
 have e0 : (w.alloc (.cells #[.pointer (some ⟨b, 0, none⟩)] 207)).heap.size = w.heap.size + 1 := by simp
 rw [e0] at hx
 have h2 := h.later hb2
 have hne : w.heap.size + 1 ≠ b := by have := h.lt; omega
 have hpt := put_L b (w.heap.size + 1) l k now g s _ h2 hd hr hs hlen hx hne
 obtain ⟨c0, c1, c2, _, _, _⟩ := id hx
 clear hd hr hlen h h2
 go_enter Tryz.func184, Tryz.ntmps184
 go_wp2_with fail
 refine hpt.mono ?_
 rintro e w1 ⟨rfl, h3, hg⟩
 go_wp2
 go_end0
 exact ⟨rfl, h3, (grown_below hb2 _).trans hg⟩
end Go.Proofs.YtjgckfcocmhnhaaGreatDoor.Ex
namespace Go.Proofs.YtjgckfcocmhnhaaGreatDoor.Ex
open Go.RowKit
set_option maxHeartbeats 4000000 in
theorem add_inL (b : Nat) (l : List Smp) (k now : Int) (s : Smp) (w : World) (h : Rl w b (thn (kg false) l) k now false) (hw : Wf l k now) (hr : R64 s.2.2) (ho : ¬ (s.1 < 0 ∨ now < s.1 ∨ s.1 ≤ now - k)) :
  Calls Tryz.prog 180 #[.pointer (some ⟨b, 0, none⟩), sv s] w fun e w' => e = .returned (.int .i64 (adE l k now s.1)) ∧ Rl w' b (thn (kg false) (adL l k now s)) k now false ∧ w.grownBy w' (some b) := by
 have hfd := field_t
 have hb1 := bal (Below.refl _ w) (.cells #[.int .i64 s.1, .bool s.2.1, .int .i64 s.2.2] 35)
 have hR := h.later hb1
 have hx := BoxS.new w s
 have h1 := hR.time
 have h2 := hR.width
 have hk := hw.k1
 have hn := hw.n1
 have e1 : wrap64 (now - k) = now - k := by unfold wrap64; omega
 have hbl := h.lt
 have HLen : Hid (¬ (l ≠ [] ∧ s.1 ≤ (lst l).1) → (thn (kg false) l).length < 100) := fun hc => Nat.lt_of_le_of_lt (thn_sub (kg false) l).length_le (hw.room ho hc)
 have HA : Hid (adL l k now s = if adE l k now s.1 = 0 then l ++ [nrm s] else l) := rfl
 have HO : Hid (¬ (s.1 < 0 ∨ now < s.1 ∨ s.1 ≤ now - k)) := ho
 have HPD : Hid _ := thn_down (kg false) l
 have HRR : Hid (∀ x ∈ thn (kg false) l, R64 x.2.2) := fun x hx => hw.rg x ((thn_sub _ l).subset hx)
 have HKP : Hid (∀ y, Hid (thn (kg false) (l ++ [y]) = kp (kg false) y (thn (kg false) l) ++ [y])) := fun y => thn_snoc (kg false) y l
 have HNL : Hid (thn (kg false) l = [] ↔ l = []) := thn_nil
 have HLS : Hid (lst (thn (kg false) l) = lst l) := thn_lst _ l
 have HTH : Hid (thn (kg false) l = thn (kg false) l) := rfl
 have d1 : decide (s.1 < 0) = false := decide_eq_false (by omega)
 have d2 : decide (now < s.1) = false := decide_eq_false (by omega)
 have d3 : decide (s.1 ≤ now - k) = false := decide_eq_false (by omega)
 clear h ho hw
 generalize hth : thn (kg false) l = r at *
 have HR : Hid (thn (kg false) l = r) := hth
 clear hth HTH
 go_enter Tryz.func180, Tryz.ntmps180
 go_wp2_with fail
 go_quiet (fail)
 generalize hwq : (w.alloc (.cells #[.int .i64 s.1, .bool s.2.1, .int .i64 s.2.2] 35)).drewN _ = wa
 have hba : Below w.heap.size w wa := by rw [← hwq]; exact below_drewN hb1 _
 have hRa : Rl wa b r k now false := by rw [← hwq]; exact hR.later (below_drewN (Below.refl _ _) _)
 have hxa : BoxS wa w.heap.size s := by rw [← hwq]; exact hx.later (below_drewN (Below.refl _ _) _)
 clear hwq hx hR h1 h2 hb1 d1 d2 d3 e1
 obtain ⟨t, o, n⟩ := s
 dsimp only at *
 by_cases c4 : r = []
 ·
  have HE : Hid (adE l k now t = 0) := adE_ok HO.out (fun e => e.1 (HNL.out.1 c4))
  have hlen : r.length < 100 := by rw [c4]; show 0 < 100; omega
  have i3 : wa.cell? ⟨b, 301, none⟩ = some (.int .i64 0) := by obtain ⟨f, o, ho, hl, hr, hf⟩ := hRa; have := hr.cc; rw [c4] at this; exact this
  clear c4
  go_wp2_with fail
  go_quiet (fail)
  generalize hwq : wa.drewN _ = w2
  have hb2 : Below w.heap.size w w2 := by rw [← hwq]; exact below_drewN hba _
  have hR2 : Rl w2 b r k now false := by rw [← hwq]; exact hRa.later (below_drewN (Below.refl _ _) _)
  have hx2 : BoxS w2 w.heap.size (t, o, n) := by rw [← hwq]; exact hxa.later (below_drewN (Below.refl _ _) _)
  clear hwq hxa hRa hba i3
  obtain ⟨c0, c1, c2, f0, f1, f2⟩ := id hx2
  go_wp2_with fail
  refine (is_any o n _).mono ?_
  rintro e w3 ⟨rfl, hb3⟩
  have hx3 := hx2.later hb3
  have hR3 := hR2.later hb3
  have hb4 := Below.chain hb2 hb3
  clear hR2 hx2 hb2
  cases hi : fIs o n with
  | true =>
   obtain ⟨n1, n2⟩ := is_cnt hi
   have HN : Hid (nrm (t, o, n) = (t, o, n)) := by show (t, ov (cnt o n), nn (cnt o n)) = _; rw [n1, n2]
   have HT := HKP.out (t, o, n)
   clear n1 n2
   have hx4 := hx3
   have hR4 := hR3
   have hb5 := hb4
   clear hx3 hR3 hb4
   generalize w3 = w4 at *
   have i7 : w4.cell? ⟨b, 304, none⟩ = some (.bool false) := by obtain ⟨f, o, ho, hl, hr, hf⟩ := hR4; exact hr.cg
   have HR2 : Hid (R64 (t, o, n).2.2) := hr
   go_wp2_with fail
   have hR5 : Rl w4.drew b r k now false := hR4.later (Below.refl _ _).drew
   have hx5 : BoxS w4.drew w.heap.size (t, o, n) := hx4.later (Below.refl _ _).drew
   have hS0 : (fun W : World => W.cell? ⟨w.heap.size, 0, none⟩ = some (Value.int .i64 t) ∧ W.cell? ⟨w.heap.size, 1, none⟩ = some (Value.bool o) ∧ W.cell? ⟨w.heap.size, 2, none⟩ = some (Value.int .i64 n)) _ := ⟨hx5.c0, hx5.c1, hx5.c2⟩
   refine wp_region_noPanic ?_
   refine wp_region_held_drew (S := fun W : World => W.cell? ⟨w.heap.size, 0, none⟩ = some (Value.int .i64 t) ∧ W.cell? ⟨w.heap.size, 1, none⟩ = some (Value.bool o) ∧ W.cell? ⟨w.heap.size, 2, none⟩ = some (Value.int .i64 n)) (by kernel_rfl) hS0 (fun _ => ?_)
   refine take_at 0 (some 63) (.pointer (some ⟨b, 0, none⟩)) rfl rfl (by kernel_rfl) (by kernel_rfl) (by kernel_rfl) (fun _ _ _ h => h) (by rfl) (fun W hSw => by obtain ⟨q0, q1, q2⟩ := hSw; go_simp) hS0 ?_
   simp only [Act.put, List.setIfInBounds_toArray, List.set_cons_zero, List.set_cons_succ]
   refine take_at 1 (some 64) (.pointer (some ⟨b, 0, none⟩)) rfl rfl (by kernel_rfl) (by kernel_rfl) (by kernel_rfl) (fun _ _ _ h => h) (by rfl) (fun W hSw => by obtain ⟨q0, q1, q2⟩ := hSw; go_simp) hS0 ?_
   simp only [Act.put, List.setIfInBounds_toArray, List.set_cons_zero, List.set_cons_succ]
   refine take_at 2 (some 65) (.pointer (some ⟨b, 0, none⟩)) rfl rfl (by kernel_rfl) (by kernel_rfl) (by kernel_rfl) (fun _ _ _ h => h) (by rfl) (fun W hSw => by obtain ⟨q0, q1, q2⟩ := hSw; go_simp) hS0 ?_
   simp only [Act.put, List.setIfInBounds_toArray, List.set_cons_zero, List.set_cons_succ]
   refine take_at 3 (some 66) (.agg #[.pointer (some ⟨b, 0, none⟩)]) rfl rfl (by kernel_rfl) (by kernel_rfl) (by kernel_rfl) (fun _ _ _ h => h) (by rfl) (fun W hSw => by obtain ⟨q0, q1, q2⟩ := hSw; go_simp) hS0 ?_
   simp only [Act.put, List.setIfInBounds_toArray, List.set_cons_zero, List.set_cons_succ]
   refine take_at 4 (some 67) (.agg #[.int .i64 t, .bool o, .int .i64 n]) rfl rfl (by kernel_rfl) (by kernel_rfl) (by kernel_rfl) (fun _ _ _ h => h) (by rfl) (fun W hSw => by obtain ⟨q0, q1, q2⟩ := hSw; go_simp) hS0 ?_
   simp only [Act.put, List.setIfInBounds_toArray, List.set_cons_zero, List.set_cons_succ]
   refine wpAnyH_ready (rs := [5]) (by kernel_rfl) (by simp) ?_
   refine AllReadyH.cons rfl (fun K hK => ?_) AllReadyH.nil
   go_simp
   refine (adder_L b r k now false (t, o, n) _ hR5 HPD.out HRR.out HR2.out hlen).mono ?_
   rintro e w6 ⟨rfl, hR6, hg6⟩
   have hx6 := hx5.kept hg6 (by simp; omega)
   have hS1 := (⟨hx6.c0, hx6.c1, hx6.c2⟩ : (fun W : World => W.cell? ⟨w.heap.size, 0, none⟩ = some (Value.int .i64 t) ∧ W.cell? ⟨w.heap.size, 1, none⟩ = some (Value.bool o) ∧ W.cell? ⟨w.heap.size, 2, none⟩ = some (Value.int .i64 n)) w6)
   refine hK.out _ _ hS1 (fun _ => ?_)
   clear hK K
   refine wpAnyH_done (by kernel_rfl) ?_ _
   refine NoPanic.normal ?_
   go_wp2
   go_ret
   exact ⟨by rw [HE.out]; rfl, by rw [HA.out, HE.out, if_pos rfl, HN.out, HT.out]; exact hR6, (grown_below (hb5.trans (Below.refl _ _).drew) (some b)).trans hg6⟩
  | false =>
   have HN : Hid (nrm (t, o, n) = (t, true, 0)) := by show (t, ov (cnt o n), nn (cnt o n)) = _; rw [isnt_cnt hr.1 hi]; rfl
   have HT := HKP.out (t, true, 0)
   obtain ⟨c0, c1, c2, f0, f1, f2⟩ := id hx3
   have hx4 : BoxS ((w3.setCell ⟨w.heap.size, 1, none⟩ (.bool true)).setCell ⟨w.heap.size, 2, none⟩ (.int .i64 0)) w.heap.size (t, true, 0) := hx3.putV true 0
   have hR4 : Rl ((w3.setCell ⟨w.heap.size, 1, none⟩ (.bool true)).setCell ⟨w.heap.size, 2, none⟩ (.int .i64 0)) b r k now false := hR3.kept ((grown_set _ _ _ _).trans (grown_set _ _ _ _)) (by simp; omega)
   have hb5 : Below w.heap.size w ((w3.setCell ⟨w.heap.size, 1, none⟩ (.bool true)).setCell ⟨w.heap.size, 2, none⟩ (.int .i64 0)) := (hb4.setCell (p := ⟨w.heap.size, 1, none⟩) (Nat.le_refl _) _).setCell (p := ⟨w.heap.size, 2, none⟩) (Nat.le_refl _) _
   have i7 : ((w3.setCell ⟨w.heap.size, 1, none⟩ (.bool true)).setCell ⟨w.heap.size, 2, none⟩ (.int .i64 0)).cell? ⟨b, 304, none⟩ = some (.bool false) := by obtain ⟨f, o, ho, hl, hr, hf⟩ := hR4; exact hr.cg
   clear hx3 hR3 hb4
   go_wp2_with fail
   generalize (w3.setCell ⟨w.heap.size, 1, none⟩ (.bool true)).setCell ⟨w.heap.size, 2, none⟩ (.int .i64 0) = w4 at *
   have HR2 : Hid (R64 (t, true, 0).2.2) := (by show R64 0; exact ⟨by decide, by decide⟩)
   have hR5 : Rl w4.drew b r k now false := hR4.later (Below.refl _ _).drew
   have hx5 : BoxS w4.drew w.heap.size (t, true, 0) := hx4.later (Below.refl _ _).drew
   have hS0 : (fun W : World => W.cell? ⟨w.heap.size, 0, none⟩ = some (Value.int .i64 t) ∧ W.cell? ⟨w.heap.size, 1, none⟩ = some (Value.bool true) ∧ W.cell? ⟨w.heap.size, 2, none⟩ = some (Value.int .i64 0)) _ := ⟨hx5.c0, hx5.c1, hx5.c2⟩
   refine wp_region_noPanic ?_
   refine wp_region_held_drew (S := fun W : World => W.cell? ⟨w.heap.size, 0, none⟩ = some (Value.int .i64 t) ∧ W.cell? ⟨w.heap.size, 1, none⟩ = some (Value.bool true) ∧ W.cell? ⟨w.heap.size, 2, none⟩ = some (Value.int .i64 0)) (by kernel_rfl) hS0 (fun _ => ?_)
   refine take_at 0 (some 63) (.pointer (some ⟨b, 0, none⟩)) rfl rfl (by kernel_rfl) (by kernel_rfl) (by kernel_rfl) (fun _ _ _ h => h) (by rfl) (fun W hSw => by obtain ⟨q0, q1, q2⟩ := hSw; go_simp) hS0 ?_
   simp only [Act.put, List.setIfInBounds_toArray, List.set_cons_zero, List.set_cons_succ]
   refine take_at 1 (some 64) (.pointer (some ⟨b, 0, none⟩)) rfl rfl (by kernel_rfl) (by kernel_rfl) (by kernel_rfl) (fun _ _ _ h => h) (by rfl) (fun W hSw => by obtain ⟨q0, q1, q2⟩ := hSw; go_simp) hS0 ?_
   simp only [Act.put, List.setIfInBounds_toArray, List.set_cons_zero, List.set_cons_succ]
   refine take_at 2 (some 65) (.pointer (some ⟨b, 0, none⟩)) rfl rfl (by kernel_rfl) (by kernel_rfl) (by kernel_rfl) (fun _ _ _ h => h) (by rfl) (fun W hSw => by obtain ⟨q0, q1, q2⟩ := hSw; go_simp) hS0 ?_
   simp only [Act.put, List.setIfInBounds_toArray, List.set_cons_zero, List.set_cons_succ]
   refine take_at 3 (some 66) (.agg #[.pointer (some ⟨b, 0, none⟩)]) rfl rfl (by kernel_rfl) (by kernel_rfl) (by kernel_rfl) (fun _ _ _ h => h) (by rfl) (fun W hSw => by obtain ⟨q0, q1, q2⟩ := hSw; go_simp) hS0 ?_
   simp only [Act.put, List.setIfInBounds_toArray, List.set_cons_zero, List.set_cons_succ]
   refine take_at 4 (some 67) (.agg #[.int .i64 t, .bool true, .int .i64 0]) rfl rfl (by kernel_rfl) (by kernel_rfl) (by kernel_rfl) (fun _ _ _ h => h) (by rfl) (fun W hSw => by obtain ⟨q0, q1, q2⟩ := hSw; go_simp) hS0 ?_
   simp only [Act.put, List.setIfInBounds_toArray, List.set_cons_zero, List.set_cons_succ]
   refine wpAnyH_ready (rs := [5]) (by kernel_rfl) (by simp) ?_
   refine AllReadyH.cons rfl (fun K hK => ?_) AllReadyH.nil
   go_simp
   refine (adder_L b r k now false (t, true, 0) _ hR5 HPD.out HRR.out HR2.out hlen).mono ?_
   rintro e w6 ⟨rfl, hR6, hg6⟩
   have hx6 := hx5.kept hg6 (by simp; omega)
   have hS1 := (⟨hx6.c0, hx6.c1, hx6.c2⟩ : (fun W : World => W.cell? ⟨w.heap.size, 0, none⟩ = some (Value.int .i64 t) ∧ W.cell? ⟨w.heap.size, 1, none⟩ = some (Value.bool true) ∧ W.cell? ⟨w.heap.size, 2, none⟩ = some (Value.int .i64 0)) w6)
   refine hK.out _ _ hS1 (fun _ => ?_)
   clear hK K
   refine wpAnyH_done (by kernel_rfl) ?_ _
   refine NoPanic.normal ?_
   go_wp2
   go_ret
   exact ⟨by rw [HE.out]; rfl, by rw [HA.out, HE.out, if_pos rfl, HN.out, HT.out]; exact hR6, (grown_below (hb5.trans (Below.refl _ _).drew) (some b)).trans hg6⟩
 ·
  have hla := fun W hW => last_any b r k now false W hW c4
  rw [HLS.out] at hla
  have hpos := List.length_pos_iff.2 c4
  have hl0 : l ≠ [] := fun e => c4 (HNL.out.2 e)
  obtain ⟨c, i3w, hcp⟩ : ∃ c : Nat, wa.cell? ⟨b, 301, none⟩ = some (.int .i64 c) ∧ 0 < c := ⟨r.length, by obtain ⟨f, o, ho, hl, hr, hf⟩ := hRa; exact hr.cc, hpos⟩
  have hc2 : (0 : Int) < (c : Int) := by omega
  generalize hxl : lst l = x at *
  have HX : Hid (lst l = x) := hxl
  clear hxl hpos hcp
  obtain ⟨xt, xo, xn⟩ := x
  dsimp only at *
  go_wp2_with fail
  have hR1 : Rl wa.drew b r k now false := hRa.later (Below.refl _ _).drew
  have hx1 : BoxS wa.drew w.heap.size (t, o, n) := hxa.later (Below.refl _ _).drew
  have hba1 : Below w.heap.size w wa.drew := hba.trans (Below.refl _ _).drew
  have i3 : wa.drew.cell? ⟨b, 301, none⟩ = some (.int .i64 c) := i3w
  have hS0 : (fun W : World => W.cell? ⟨b, 301, none⟩ = some (Value.int .i64 c) ∧ W.cell? ⟨w.heap.size, 0, none⟩ = some (Value.int .i64 t)) _ := ⟨i3, hx1.c0⟩
  refine wp_region_noPanic ?_
  refine wp_region_held_drew (S := fun W : World => W.cell? ⟨b, 301, none⟩ = some (Value.int .i64 c) ∧ W.cell? ⟨w.heap.size, 0, none⟩ = some (Value.int .i64 t)) (by kernel_rfl) hS0 (fun _ => ?_)
  refine take_at 0 (some 31) (.pointer (some ⟨b, 0, none⟩)) rfl rfl (by kernel_rfl) (by kernel_rfl) (by kernel_rfl) (fun _ _ _ h => h) (by rfl) (fun W hSw => by obtain ⟨q0, q1⟩ := hSw; go_simp) hS0 ?_
  simp only [Act.put, List.setIfInBounds_toArray, List.set_cons_zero, List.set_cons_succ]
  refine take_at 1 (some 32) (.pointer (some ⟨b, 0, none⟩)) rfl rfl (by kernel_rfl) (by kernel_rfl) (by kernel_rfl) (fun _ _ _ h => h) (by rfl) (fun W hSw => by obtain ⟨q0, q1⟩ := hSw; go_simp) hS0 ?_
  simp only [Act.put, List.setIfInBounds_toArray, List.set_cons_zero, List.set_cons_succ]
  refine take_at 2 (some 33) (.pointer (some ⟨b, 0, none⟩)) rfl rfl (by kernel_rfl) (by kernel_rfl) (by kernel_rfl) (fun _ _ _ h => h) (by rfl) (fun W hSw => by obtain ⟨q0, q1⟩ := hSw; go_simp) hS0 ?_
  simp only [Act.put, List.setIfInBounds_toArray, List.set_cons_zero, List.set_cons_succ]
  refine take_at 3 (some 34) (.pointer (some ⟨b, 301, none⟩)) rfl rfl (by kernel_rfl) (by kernel_rfl) (by kernel_rfl) (fun _ _ _ h => h) (by rfl) (fun W hSw => by obtain ⟨q0, q1⟩ := hSw; go_simp) hS0 ?_
  simp only [Act.put, List.setIfInBounds_toArray, List.set_cons_zero, List.set_cons_succ]
  refine take_at 4 (some 35) (.int .i64 c) rfl rfl (by kernel_rfl) (by kernel_rfl) (by kernel_rfl) (fun _ _ _ h => h) (by rfl) (fun W hSw => by obtain ⟨q0, q1⟩ := hSw; go_simp) hS0 ?_
  simp only [Act.put, List.setIfInBounds_toArray, List.set_cons_zero, List.set_cons_succ]
  refine take_at 5 (some 36) (.bool true) rfl rfl (by kernel_rfl) (by kernel_rfl) (by kernel_rfl) (fun _ _ _ h => h) (by rfl) (fun W hSw => by obtain ⟨q0, q1⟩ := hSw; go_simp; omega) hS0 ?_
  simp only [Act.put, List.setIfInBounds_toArray, List.set_cons_zero, List.set_cons_succ]
  refine take_at 6 (some 37) (.bool true) rfl rfl (by kernel_rfl) (by kernel_rfl) (by kernel_rfl) (fun _ _ _ h => h) (by rfl) (fun W hSw => by obtain ⟨q0, q1⟩ := hSw; go_simp) hS0 ?_
  simp only [Act.put, List.setIfInBounds_toArray, List.set_cons_zero, List.set_cons_succ]
  refine take_at 7 (some 38) (.pointer (some ⟨w.heap.size, 0, none⟩)) rfl rfl (by kernel_rfl) (by kernel_rfl) (by kernel_rfl) (fun _ _ _ h => h) (by rfl) (fun W hSw => by obtain ⟨q0, q1⟩ := hSw; go_simp) hS0 ?_
  simp only [Act.put, List.setIfInBounds_toArray, List.set_cons_zero, List.set_cons_succ]
  refine take_at 8 (some 39) (.int .i64 t) rfl rfl (by kernel_rfl) (by kernel_rfl) (by kernel_rfl) (fun _ _ _ h => h) (by rfl) (fun W hSw => by obtain ⟨q0, q1⟩ := hSw; go_simp) hS0 ?_
  simp only [Act.put, List.setIfInBounds_toArray, List.set_cons_zero, List.set_cons_succ]
  refine take_at 9 (some 40) (.pointer (some ⟨b, 0, none⟩)) rfl rfl (by kernel_rfl) (by kernel_rfl) (by kernel_rfl) (fun _ _ _ h => h) (by rfl) (fun W hSw => by obtain ⟨q0, q1⟩ := hSw; go_simp) hS0 ?_
  simp only [Act.put, List.setIfInBounds_toArray, List.set_cons_zero, List.set_cons_succ]
  refine take_at 10 (some 41) (.pointer (some ⟨b, 0, none⟩)) rfl rfl (by kernel_rfl) (by kernel_rfl) (by kernel_rfl) (fun _ _ _ h => h) (by rfl) (fun W hSw => by obtain ⟨q0, q1⟩ := hSw; go_simp) hS0 ?_
  simp only [Act.put, List.setIfInBounds_toArray, List.set_cons_zero, List.set_cons_succ]
  refine take_at 11 (some 42) (.pointer (some ⟨b, 0, none⟩)) rfl rfl (by kernel_rfl) (by kernel_rfl) (by kernel_rfl) (fun _ _ _ h => h) (by rfl) (fun W hSw => by obtain ⟨q0, q1⟩ := hSw; go_simp) hS0 ?_
  simp only [Act.put, List.setIfInBounds_toArray, List.set_cons_zero, List.set_cons_succ]
  refine wpAnyH_ready (rs := [12]) (by kernel_rfl) (by simp) ?_
  refine AllReadyH.cons rfl (fun K hK => ?_) AllReadyH.nil
  go_simp
  refine (hla _ hR1).mono ?_
  rintro e w3 ⟨rfl, hb3⟩
  have hS1 := (⟨(hb3.cell (World.block_lt_of_cell? _ _ i3)).trans i3, (hx1.later hb3).c0⟩ : (fun W : World => W.cell? ⟨b, 301, none⟩ = some (Value.int .i64 c) ∧ W.cell? ⟨w.heap.size, 0, none⟩ = some (Value.int .i64 t)) w3)
  refine hK.out _ _ hS1 (fun _ => ?_)
  clear hK K
  refine take_at 13 (some 44) (.int .i64 xt) rfl rfl (by kernel_rfl) (by kernel_rfl) (by kernel_rfl) (fun _ _ _ h => h) (by rfl) (fun W hSw => by obtain ⟨q0, q1⟩ := hSw; go_simp) hS1 ?_
  simp only [Act.put, List.setIfInBounds_toArray, List.set_cons_zero, List.set_cons_succ]
  have hR2 := hR1.later hb3
  have hx2 := hx1.later hb3
  have hb2 := Below.chain hba1 hb3
  clear hla hR1 hx1 hba1 hRa hxa hba i3 i3w
  obtain ⟨c0, c1, c2, f0, f1, f2⟩ := id hx2
  by_cases c5 : t ≤ xt
  ·
   have HE : Hid (adE l k now t = 150) := adE_old HO.out ⟨hl0, by rw [HX.out]; exact c5⟩
   have d5 := c5
   clear c4 c5
   refine take_at 14 (some 45) (.bool true) rfl rfl (by kernel_rfl) (by kernel_rfl) (by kernel_rfl) (fun _ _ _ h => h) (by rfl) (fun W hSw => by obtain ⟨q0, q1⟩ := hSw; go_simp) hS1 ?_
   simp only [Act.put, List.setIfInBounds_toArray, List.set_cons_zero, List.set_cons_succ]
   refine take_at 15 (some 46) (.bool true) rfl rfl (by kernel_rfl) (by kernel_rfl) (by kernel_rfl) (fun _ _ _ h => h) (by rfl) (fun W hSw => by obtain ⟨q0, q1⟩ := hSw; go_simp) hS1 ?_
   simp only [Act.put, List.setIfInBounds_toArray, List.set_cons_zero, List.set_cons_succ]
   refine wpAnyH_done (by kernel_rfl) ?_ _
   refine NoPanic.normal ?_
   go_wp2
   go_ret
   exact ⟨by rw [HE.out]; rfl, by rw [HA.out, HE.out, if_neg (by decide), HR.out]; exact hR2, grown_below hb2 (some b)⟩
  ·
   have HE : Hid (adE l k now t = 0) := adE_ok HO.out (fun e => c5 (by have := e.2; rw [HX.out] at this; exact this))
   have hlen : r.length < 100 := HLen.out (fun e => c5 (by have := e.2; exact this))
   have d5 := c5
   clear c4 c5
   refine take_at 14 (some 45) (.bool false) rfl rfl (by kernel_rfl) (by kernel_rfl) (by kernel_rfl) (fun _ _ _ h => h) (by rfl) (fun W hSw => by obtain ⟨q0, q1⟩ := hSw; go_simp) hS1 ?_
   simp only [Act.put, List.setIfInBounds_toArray, List.set_cons_zero, List.set_cons_succ]
   refine take_at 15 (some 46) (.bool false) rfl rfl (by kernel_rfl) (by kernel_rfl) (by kernel_rfl) (fun _ _ _ h => h) (by rfl) (fun W hSw => by obtain ⟨q0, q1⟩ := hSw; go_simp) hS1 ?_
   simp only [Act.put, List.setIfInBounds_toArray, List.set_cons_zero, List.set_cons_succ]
   refine wpAnyH_done (by kernel_rfl) ?_ _
   refine NoPanic.normal ?_
   generalize w3 = w2 at *
   go_wp2_with fail
   refine (is_any o n _).mono ?_
   rintro e w3 ⟨rfl, hb3⟩
   have hx3 := hx2.later hb3
   have hR3 := hR2.later hb3
   have hb4 := Below.chain hb2 hb3
   clear hR2 hx2 hb2
   cases hi : fIs o n with
   | true =>
    obtain ⟨n1, n2⟩ := is_cnt hi
    have HN : Hid (nrm (t, o, n) = (t, o, n)) := by show (t, ov (cnt o n), nn (cnt o n)) = _; rw [n1, n2]
    have HT := HKP.out (t, o, n)
    clear n1 n2
    have hx4 := hx3
    have hR4 := hR3
    have hb5 := hb4
    clear hx3 hR3 hb4
    generalize w3 = w4 at *
    have i7 : w4.cell? ⟨b, 304, none⟩ = some (.bool false) := by obtain ⟨f, o, ho, hl, hr, hf⟩ := hR4; exact hr.cg
    have HR2 : Hid (R64 (t, o, n).2.2) := hr
    go_wp2_with fail
    have hR5 : Rl w4.drew b r k now false := hR4.later (Below.refl _ _).drew
    have hx5 : BoxS w4.drew w.heap.size (t, o, n) := hx4.later (Below.refl _ _).drew
    have hS0 : (fun W : World => W.cell? ⟨w.heap.size, 0, none⟩ = some (Value.int .i64 t) ∧ W.cell? ⟨w.heap.size, 1, none⟩ = some (Value.bool o) ∧ W.cell? ⟨w.heap.size, 2, none⟩ = some (Value.int .i64 n)) _ := ⟨hx5.c0, hx5.c1, hx5.c2⟩
    refine wp_region_noPanic ?_
    refine wp_region_held_drew (S := fun W : World => W.cell? ⟨w.heap.size, 0, none⟩ = some (Value.int .i64 t) ∧ W.cell? ⟨w.heap.size, 1, none⟩ = some (Value.bool o) ∧ W.cell? ⟨w.heap.size, 2, none⟩ = some (Value.int .i64 n)) (by kernel_rfl) hS0 (fun _ => ?_)
    refine take_at 0 (some 63) (.pointer (some ⟨b, 0, none⟩)) rfl rfl (by kernel_rfl) (by kernel_rfl) (by kernel_rfl) (fun _ _ _ h => h) (by rfl) (fun W hSw => by obtain ⟨q0, q1, q2⟩ := hSw; go_simp) hS0 ?_
    simp only [Act.put, List.setIfInBounds_toArray, List.set_cons_zero, List.set_cons_succ]
    refine take_at 1 (some 64) (.pointer (some ⟨b, 0, none⟩)) rfl rfl (by kernel_rfl) (by kernel_rfl) (by kernel_rfl) (fun _ _ _ h => h) (by rfl) (fun W hSw => by obtain ⟨q0, q1, q2⟩ := hSw; go_simp) hS0 ?_
    simp only [Act.put, List.setIfInBounds_toArray, List.set_cons_zero, List.set_cons_succ]
    refine take_at 2 (some 65) (.pointer (some ⟨b, 0, none⟩)) rfl rfl (by kernel_rfl) (by kernel_rfl) (by kernel_rfl) (fun _ _ _ h => h) (by rfl) (fun W hSw => by obtain ⟨q0, q1, q2⟩ := hSw; go_simp) hS0 ?_
    simp only [Act.put, List.setIfInBounds_toArray, List.set_cons_zero, List.set_cons_succ]
    refine take_at 3 (some 66) (.agg #[.pointer (some ⟨b, 0, none⟩)]) rfl rfl (by kernel_rfl) (by kernel_rfl) (by kernel_rfl) (fun _ _ _ h => h) (by rfl) (fun W hSw => by obtain ⟨q0, q1, q2⟩ := hSw; go_simp) hS0 ?_
    simp only [Act.put, List.setIfInBounds_toArray, List.set_cons_zero, List.set_cons_succ]
    refine take_at 4 (some 67) (.agg #[.int .i64 t, .bool o, .int .i64 n]) rfl rfl (by kernel_rfl) (by kernel_rfl) (by kernel_rfl) (fun _ _ _ h => h) (by rfl) (fun W hSw => by obtain ⟨q0, q1, q2⟩ := hSw; go_simp) hS0 ?_
    simp only [Act.put, List.setIfInBounds_toArray, List.set_cons_zero, List.set_cons_succ]
    refine wpAnyH_ready (rs := [5]) (by kernel_rfl) (by simp) ?_
    refine AllReadyH.cons rfl (fun K hK => ?_) AllReadyH.nil
    go_simp
    refine (adder_L b r k now false (t, o, n) _ hR5 HPD.out HRR.out HR2.out hlen).mono ?_
    rintro e w6 ⟨rfl, hR6, hg6⟩
    have hx6 := hx5.kept hg6 (by simp; omega)
    have hS1 := (⟨hx6.c0, hx6.c1, hx6.c2⟩ : (fun W : World => W.cell? ⟨w.heap.size, 0, none⟩ = some (Value.int .i64 t) ∧ W.cell? ⟨w.heap.size, 1, none⟩ = some (Value.bool o) ∧ W.cell? ⟨w.heap.size, 2, none⟩ = some (Value.int .i64 n)) w6)
    refine hK.out _ _ hS1 (fun _ => ?_)
    clear hK K
    refine wpAnyH_done (by kernel_rfl) ?_ _
    refine NoPanic.normal ?_
    go_wp2
    go_ret
    exact ⟨by rw [HE.out]; rfl, by rw [HA.out, HE.out, if_pos rfl, HN.out, HT.out]; exact hR6, (grown_below (hb5.trans (Below.refl _ _).drew) (some b)).trans hg6⟩
   | false =>
    have HN : Hid (nrm (t, o, n) = (t, true, 0)) := by show (t, ov (cnt o n), nn (cnt o n)) = _; rw [isnt_cnt hr.1 hi]; rfl
    have HT := HKP.out (t, true, 0)
    obtain ⟨c0, c1, c2, f0, f1, f2⟩ := id hx3
    have hx4 : BoxS ((w3.setCell ⟨w.heap.size, 1, none⟩ (.bool true)).setCell ⟨w.heap.size, 2, none⟩ (.int .i64 0)) w.heap.size (t, true, 0) := hx3.putV true 0
    have hR4 : Rl ((w3.setCell ⟨w.heap.size, 1, none⟩ (.bool true)).setCell ⟨w.heap.size, 2, none⟩ (.int .i64 0)) b r k now false := hR3.kept ((grown_set _ _ _ _).trans (grown_set _ _ _ _)) (by simp; omega)
    have hb5 : Below w.heap.size w ((w3.setCell ⟨w.heap.size, 1, none⟩ (.bool true)).setCell ⟨w.heap.size, 2, none⟩ (.int .i64 0)) := (hb4.setCell (p := ⟨w.heap.size, 1, none⟩) (Nat.le_refl _) _).setCell (p := ⟨w.heap.size, 2, none⟩) (Nat.le_refl _) _
    have i7 : ((w3.setCell ⟨w.heap.size, 1, none⟩ (.bool true)).setCell ⟨w.heap.size, 2, none⟩ (.int .i64 0)).cell? ⟨b, 304, none⟩ = some (.bool false) := by obtain ⟨f, o, ho, hl, hr, hf⟩ := hR4; exact hr.cg
    clear hx3 hR3 hb4
    go_wp2_with fail
    generalize (w3.setCell ⟨w.heap.size, 1, none⟩ (.bool true)).setCell ⟨w.heap.size, 2, none⟩ (.int .i64 0) = w4 at *
    have HR2 : Hid (R64 (t, true, 0).2.2) := (by show R64 0; exact ⟨by decide, by decide⟩)
    have hR5 : Rl w4.drew b r k now false := hR4.later (Below.refl _ _).drew
    have hx5 : BoxS w4.drew w.heap.size (t, true, 0) := hx4.later (Below.refl _ _).drew
    have hS0 : (fun W : World => W.cell? ⟨w.heap.size, 0, none⟩ = some (Value.int .i64 t) ∧ W.cell? ⟨w.heap.size, 1, none⟩ = some (Value.bool true) ∧ W.cell? ⟨w.heap.size, 2, none⟩ = some (Value.int .i64 0)) _ := ⟨hx5.c0, hx5.c1, hx5.c2⟩
    refine wp_region_noPanic ?_
    refine wp_region_held_drew (S := fun W : World => W.cell? ⟨w.heap.size, 0, none⟩ = some (Value.int .i64 t) ∧ W.cell? ⟨w.heap.size, 1, none⟩ = some (Value.bool true) ∧ W.cell? ⟨w.heap.size, 2, none⟩ = some (Value.int .i64 0)) (by kernel_rfl) hS0 (fun _ => ?_)
    refine take_at 0 (some 63) (.pointer (some ⟨b, 0, none⟩)) rfl rfl (by kernel_rfl) (by kernel_rfl) (by kernel_rfl) (fun _ _ _ h => h) (by rfl) (fun W hSw => by obtain ⟨q0, q1, q2⟩ := hSw; go_simp) hS0 ?_
    simp only [Act.put, List.setIfInBounds_toArray, List.set_cons_zero, List.set_cons_succ]
    refine take_at 1 (some 64) (.pointer (some ⟨b, 0, none⟩)) rfl rfl (by kernel_rfl) (by kernel_rfl) (by kernel_rfl) (fun _ _ _ h => h) (by rfl) (fun W hSw => by obtain ⟨q0, q1, q2⟩ := hSw; go_simp) hS0 ?_
    simp only [Act.put, List.setIfInBounds_toArray, List.set_cons_zero, List.set_cons_succ]
    refine take_at 2 (some 65) (.pointer (some ⟨b, 0, none⟩)) rfl rfl (by kernel_rfl) (by kernel_rfl) (by kernel_rfl) (fun _ _ _ h => h) (by rfl) (fun W hSw => by obtain ⟨q0, q1, q2⟩ := hSw; go_simp) hS0 ?_
    simp only [Act.put, List.setIfInBounds_toArray, List.set_cons_zero, List.set_cons_succ]
    refine take_at 3 (some 66) (.agg #[.pointer (some ⟨b, 0, none⟩)]) rfl rfl (by kernel_rfl) (by kernel_rfl) (by kernel_rfl) (fun _ _ _ h => h) (by rfl) (fun W hSw => by obtain ⟨q0, q1, q2⟩ := hSw; go_simp) hS0 ?_
    simp only [Act.put, List.setIfInBounds_toArray, List.set_cons_zero, List.set_cons_succ]
    refine take_at 4 (some 67) (.agg #[.int .i64 t, .bool true, .int .i64 0]) rfl rfl (by kernel_rfl) (by kernel_rfl) (by kernel_rfl) (fun _ _ _ h => h) (by rfl) (fun W hSw => by obtain ⟨q0, q1, q2⟩ := hSw; go_simp) hS0 ?_
    simp only [Act.put, List.setIfInBounds_toArray, List.set_cons_zero, List.set_cons_succ]
    refine wpAnyH_ready (rs := [5]) (by kernel_rfl) (by simp) ?_
    refine AllReadyH.cons rfl (fun K hK => ?_) AllReadyH.nil
    go_simp
    refine (adder_L b r k now false (t, true, 0) _ hR5 HPD.out HRR.out HR2.out hlen).mono ?_
    rintro e w6 ⟨rfl, hR6, hg6⟩
    have hx6 := hx5.kept hg6 (by simp; omega)
    have hS1 := (⟨hx6.c0, hx6.c1, hx6.c2⟩ : (fun W : World => W.cell? ⟨w.heap.size, 0, none⟩ = some (Value.int .i64 t) ∧ W.cell? ⟨w.heap.size, 1, none⟩ = some (Value.bool true) ∧ W.cell? ⟨w.heap.size, 2, none⟩ = some (Value.int .i64 0)) w6)
    refine hK.out _ _ hS1 (fun _ => ?_)
    clear hK K
    refine wpAnyH_done (by kernel_rfl) ?_ _
    refine NoPanic.normal ?_
    go_wp2
    go_ret
    exact ⟨by rw [HE.out]; rfl, by rw [HA.out, HE.out, if_pos rfl, HN.out, HT.out]; exact hR6, (grown_below (hb5.trans (Below.refl _ _).drew) (some b)).trans hg6⟩
theorem add_anyL (b : Nat) (l : List Smp) (k now : Int) (s : Smp) (w : World) (h : Rl w b (thn (kg false) l) k now false) (hw : Wf l k now) (hr : R64 s.2.2) :
  Calls Tryz.prog 180 #[.pointer (some ⟨b, 0, none⟩), sv s] w fun e w' => e = .returned (.int .i64 (adE l k now s.1)) ∧ Rl w' b (thn (kg false) (adL l k now s)) k now false ∧ w.grownBy w' (some b) := by
 by_cases ho : s.1 < 0 ∨ now < s.1 ∨ s.1 ≤ now - k
 ·
  have e : adE l k now s.1 = 152 := adE_out ho
  rw [show adL l k now s = l by unfold adL; rw [e, if_neg (by decide)], e]
  exact (add_out b _ k now false s w h hw.k1 hw.n1 ho).mono fun e w' ⟨h1, h2⟩ => ⟨h1, h.later h2, grown_below h2 _⟩
 ·
  exact add_inL b l k now s w h hw hr ho
end Go.Proofs.YtjgckfcocmhnhaaGreatDoor.Ex
