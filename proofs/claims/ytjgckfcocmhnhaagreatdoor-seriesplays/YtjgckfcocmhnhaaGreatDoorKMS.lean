/- Texts that the others lean on. -/
import Derived.Test.YtjgckfcocmhnhaaGreatDoorKMR
import Derived.Test.YtjgckfcocmhnhaaGreatDoorKMC
import Derived.Handy
import Derived.Test.YtjgckfcocmhnhaaGreatDoorKMB
import Derived.Test.YtjgckfcocmhnhaaGreatDoorKME
namespace Go.Proofs.YtjgckfcocmhnhaaGreatDoor.Sr
open Go.RowKit Rn
/-- What kind of memory lies there. -/
def Ty (w : World) (b : Nat) (e : TypeId) : Prop := ∃ cur fr, w.heap[b]? = some (.cells cur e fr)
theorem Ty.lt {w : World} {b : Nat} {e : TypeId} (h : Ty w b e) : b < w.heap.size := by
 obtain ⟨c, f, h⟩ := h
 rcases Nat.lt_or_ge b w.heap.size with hlt | hge
 ·
  exact hlt
 ·
  rw [Array.getElem?_eq_none hge] at h; cases h
theorem Ty.kept {w w' : World} {b : Nat} {e : TypeId} (h : Ty w b e) {row : Option Nat} (hg : w.grownBy w' row) (hne : some b ≠ row) : Ty w' b e := by
 have hlt := h.lt
 obtain ⟨c, f, h⟩ := h
 exact ⟨c, f, (hg.block b hlt hne).trans h⟩
theorem Ty.later {w w' : World} {b : Nat} {e : TypeId} (h : Ty w b e) (hb : Below w.heap.size w w') : Ty w' b e := h.kept (grown_below hb none) (by simp)
theorem Ty.set {w : World} {b : Nat} {e : TypeId} (h : Ty w b e) (o : Nat) (v : Value) : Ty (w.setCell ⟨b, o, none⟩ v) b e := by
 obtain ⟨c, f, h⟩ := h
 obtain ⟨hlt, hk⟩ := Array.getElem?_eq_some_iff.1 h
 refine ⟨c.setIfInBounds o v, f, ?_⟩
 show (w.heap.modify b _)[b]? = _
 rw [Array.getElem?_eq_getElem (by rw [Array.size_modify]; exact hlt), Array.getElem_modify_self, hk]
 rfl
theorem Ty.ne {w : World} {a b : Nat} {e e' : TypeId} (h : Ty w a e) (h' : Ty w b e') (hne : e ≠ e') : a ≠ b := by
 rintro rfl
 obtain ⟨c, f, h⟩ := h
 obtain ⟨c', f', h'⟩ := h'
 rw [h] at h'
 injection h' with h'
 injection h' with _ h' _
 exact hne h'
theorem Ty.new (w : World) (cs : Array Value) (e : TypeId) : Ty (w.alloc (.cells cs e)) w.heap.size e := ⟨cs, _, heap_alloc_new w _⟩
theorem row_ty {w : World} {base : Nat} {e : TypeId} {size : Nat} {v : Value} {n : Nat} {xs : List Value} (h : w.ownsRow base e size v n xs) {g : Nat} (hg : v.ownBlock = some g) : Ty w g e := by
 rcases h.2 with ⟨rfl, _⟩ | ⟨g', cap, cur, rfl, _, hgb, _⟩
 ·
  simp [Value.ownBlock] at hg
 ·
  obtain rfl : g' = g := by simpa [Value.ownBlock] using hg
  exact ⟨cur, _, hgb⟩
theorem row_kept {w w' : World} {base : Nat} {e : TypeId} {size : Nat} {v : Value} {n : Nat} {xs : List Value} (h : w.ownsRow base e size v n xs) {row : Option Nat} (hg : w.grownBy w' row) (hne : ∀ g, v.ownBlock = some g → some g ≠ row) : w'.ownsRow base e size v n xs := by
 refine World.ownsRow.kept h hg ?_
 cases hv : v.ownBlock with
 | none => exact Or.inl rfl
 | some k => exact Or.inr (fun e => hne k hv e)
/-- A row's block is not one of another kind. -/
theorem row_ne {w : World} {base : Nat} {e e' : TypeId} {size : Nat} {v : Value} {n : Nat} {xs : List Value} (h : w.ownsRow base e size v n xs) {b : Nat} (ht : Ty w b e') (hne : e ≠ e') : ∀ g, v.ownBlock = some g → some g ≠ some b := by
 intro g hg e1
 injection e1 with e1
 exact (row_ty h hg).ne ht hne e1
structure Gf (w w' : World) (F : Nat → Prop) : Prop where
 os : w'.os = w.os
 tape : w'.tape = w.tape
 output : w'.output = w.output
 size : w.heap.size ≤ w'.heap.size
 block : ∀ k, k < w.heap.size → ¬ F k → w'.heap[k]? = w.heap[k]?
theorem Gf.of {w w' : World} {F : Nat → Prop} {row : Option Nat} (h : w.grownBy w' row) (hr : ∀ k, row = some k → k < w.heap.size → F k) : Gf w w' F := ⟨h.os, h.tape, h.output, h.size, fun k hk hf => h.block k hk (fun e => hf (hr k e.symm hk))⟩
theorem Gf.trans {a b c : World} {F : Nat → Prop} (h : Gf a b F) (h' : Gf b c F) : Gf a c F := ⟨h'.os.trans h.os, h'.tape.trans h.tape, h'.output.trans h.output, Nat.le_trans h.size h'.size, fun k hk hf => (h'.block k (Nat.lt_of_lt_of_le hk h.size) hf).trans (h.block k hk hf)⟩
theorem Gf.step {a b c : World} {F : Nat → Prop} (h : Gf a b F) {row : Option Nat} (h' : b.grownBy c row) (hr : ∀ k, row = some k → k < a.heap.size → F k) : Gf a c F := ⟨h'.os.trans h.os, h'.tape.trans h.tape, h'.output.trans h.output, Nat.le_trans h.size h'.size, fun k hk hf => (h'.block k (Nat.lt_of_lt_of_le hk h.size) (fun e => hf (hr k e.symm hk))).trans (h.block k hk hf)⟩
theorem Gf.below {a b : World} {F : Nat → Prop} (h : Below a.heap.size a b) : Gf a b F := Gf.of (grown_below h none) (by simp)
theorem Gf.cell {w w' : World} {F : Nat → Prop} (h : Gf w w' F) {b o : Nat} {v : Value} (hc : w.cell? ⟨b, o, none⟩ = some v) (hf : ¬ F b) : w'.cell? ⟨b, o, none⟩ = some v :=
 (World.cell?_of_block (a := ⟨b, o, none⟩) (h.block b (World.block_lt_of_cell? _ _ hc) hf)).trans hc
theorem Ty.gf {w w' : World} {F : Nat → Prop} {b : Nat} {e : TypeId} (ht : Ty w b e) (h : Gf w w' F) (hf : ¬ F b) : Ty w' b e := by
 have hlt := ht.lt
 obtain ⟨c, f, ht⟩ := ht
 exact ⟨c, f, (h.block b hlt hf).trans ht⟩
theorem row_gf {w w' : World} {F : Nat → Prop} {base : Nat} {e : TypeId} {size : Nat} {v : Value} {n : Nat} {xs : List Value} (h : w.ownsRow base e size v n xs) (hg : Gf w w' F) (hne : ∀ g, v.ownBlock = some g → ¬ F g) : w'.ownsRow base e size v n xs := by
 rcases h with ⟨hl, ⟨hv, h0⟩ | ⟨g, cap, cur, hv, hb, hgc, hn, hm, hs, ht⟩⟩
 ·
  exact ⟨hl, Or.inl ⟨hv, h0⟩⟩
 ·
  have hlt : g < w.heap.size := by
   rcases Nat.lt_or_ge g w.heap.size with hlt | hge
   ·
    exact hlt
   ·
    rw [Array.getElem?_eq_none hge] at hgc; cases hgc
  exact ⟨hl, Or.inr ⟨g, cap, cur, hv, hb, (hg.block g hlt (hne g (by rw [hv]; rfl))).trans hgc, hn, hm, hs, ht⟩⟩
/-- A set of pairs in memory, in a row of its own kind. -/
def Pq (w : World) (v : Value) (a : List Lb.Pr) : Prop := ∃ xa xn xc, v = .slice xa xn xc ∧ xn ≤ 1000000 ∧ Lb.Ps w xa xn a ∧ ∀ g, v.ownBlock = some g → Ty w g 45
/-- A set of pairs in memory, of whatever block. -/
def Pv (w : World) (v : Value) (a : List Lb.Pr) : Prop := ∃ xa xn xc, v = .slice xa xn xc ∧ xn ≤ 1000000 ∧ Lb.Ps w xa xn a
theorem Pq.pv {w : World} {v : Value} {a : List Lb.Pr} (h : Pq w v a) : Pv w v a := by
 obtain ⟨xa, xn, xc, e, hn, hp, _⟩ := h
 exact ⟨xa, xn, xc, e, hn, hp⟩
theorem Pv.later {w w' : World} {v : Value} {a : List Lb.Pr} (h : Pv w v a) (hb : Below w.heap.size w w') : Pv w' v a := by
 obtain ⟨xa, xn, xc, rfl, hn, hp⟩ := h
 exact ⟨xa, xn, xc, rfl, hn, hp.later hb⟩
theorem Pq.later {w w' : World} {v : Value} {a : List Lb.Pr} (h : Pq w v a) (hb : Below w.heap.size w w') : Pq w' v a := by
 obtain ⟨xa, xn, xc, rfl, hn, hp, ht⟩ := h
 exact ⟨xa, xn, xc, rfl, hn, hp.later hb, fun g e => (ht g e).later hb⟩
theorem Pq.gf {w w' : World} {v : Value} {a : List Lb.Pr} {F : Nat → Prop} (h : Pq w v a) (hg : Gf w w' F) (hF : ∀ g, Ty w g 45 → ¬ F g) : Pq w' v a := by
 obtain ⟨xa, xn, xc, rfl, hn, hp, ht⟩ := h
 refine ⟨xa, xn, xc, rfl, hn, ?_, fun g e => (ht g e).gf hg (hF g (ht g e))⟩
 obtain ⟨hl, hc⟩ := hp
 refine ⟨hl, fun hpos => ?_⟩
 obtain ⟨b, off, rfl, hcell⟩ := hc hpos
 have hfb := hF b (ht b rfl)
 exact ⟨b, off, rfl, fun j hj => ⟨hg.cell (hcell j hj).1 hfb, hg.cell (hcell j hj).2 hfb⟩⟩
theorem Pq.keptN {w w' : World} {v : Value} {a : List Lb.Pr} (h : Pq w v a) {row : Option Nat} (hg : w.grownBy w' row) (hne : ∀ g, v.ownBlock = some g → some g ≠ row) : Pq w' v a := by
 obtain ⟨xa, xn, xc, rfl, hn, hp, ht⟩ := h
 refine ⟨xa, xn, xc, rfl, hn, ?_, fun g e => (ht g e).kept hg (hne g e)⟩
 obtain ⟨hl, hc⟩ := hp
 refine ⟨hl, fun hpos => ?_⟩
 obtain ⟨b, off, rfl, hcell⟩ := hc hpos
 have hfb := hne b rfl
 exact ⟨b, off, rfl, fun j hj => ⟨grown_cell hg (hcell j hj).1 hfb, grown_cell hg (hcell j hj).2 hfb⟩⟩
end Go.Proofs.YtjgckfcocmhnhaaGreatDoor.Sr
namespace Go.Proofs.YtjgckfcocmhnhaaGreatDoor.Sr
open Go.RowKit Rn
/-- What a window holds that was handed samples one after the other. -/
def addAll (k now : Int) (a : List Smp) (l : List Smp) : List Smp := l.foldl (fun a s => adL a k now s) a
theorem addAll_snoc (k now : Int) (a l : List Smp) (s : Smp) : addAll k now a (l ++ [s]) = adL (addAll k now a l) k now s := by simp [addAll]
set_option maxHeartbeats 4000000 in
theorem fill_ring (b : Nat) (l0 : List Smp) (k nw t : Int) (ao : Option Addr) (m cap : Nat) (l : List Smp) (w : World) (h : St w b l0 k nw) (hm : m ≤ 1000) (hl : Ms w ao m l) (hne : ∀ a, ao = some a → 0 < m → a.block ≠ b) (hr : ∀ s ∈ l, R64 s.2.2) :
  Calls Tryz.prog 70 #[.iface 72 (.pointer (some ⟨b, 0, none⟩)), .int .i64 t, .slice ao m cap] w fun e w' => e = .returned (.tuple #[]) ∧ St w' b (addAll k (onw nw t) (fg (onw nw t - k) l0) l) k (onw nw t) ∧ w.grownBy w' (some b) := by
 have hadv := fun W hW => adv_st b l0 k nw t W hW
 obtain ⟨hll, hlc⟩ := hl
 have HL : Hid (l.length = m) := hll
 have HB : Hid (b < w.heap.size) := h.m.lt
 have HNE : Hid (∀ a, ao = some a → 0 < m → a.block ≠ b) := hne
 have HLC : Hid _ := hlc
 have HR : Hid (∀ j, j < m → R64 (l.getD j s0).2.2) := fun j hj => hr _ (by rw [List.getD_eq_getElem?_getD, List.getElem?_eq_getElem (by rw [HL.out]; exact hj)]; exact List.getElem_mem _)
 clear hll hlc hne hr
 generalize onw nw t = now at *
 generalize fg (now - k) l0 = a0 at *
 go_enter Tryz.func70, Tryz.ntmps70
 go_wp2_with fail
 refine (hadv _ h).mono ?_
 rintro e w1 ⟨rfl, h1, hg1⟩
 clear hadv
 have hmi : (m : Int) ≤ 1000 := by omega
 go_wp2
 go_loopw [13] (fun i wr => ∃ j : Nat, j ≤ m ∧ i = .int .i64 j ∧ Hid (St wr b (addAll k now a0 (l.take j)) k now) ∧ w.grownBy wr (some b)) (fun i _ => m - (intOf i).toNat)
 case atStart => exact ⟨0, by omega, rfl, h1, hg1⟩
 case round =>
  obtain ⟨j, hj, rfl, hst, hg⟩ := hrel
  by_cases hlt : j < m
  ·
   have hd : decide ((j : Int) < (m : Int)) = true := decide_eq_true (by omega)
   obtain ⟨b1, o1, rfl, hc⟩ := HLC.out (by omega)
   obtain ⟨c0, c1, c2⟩ := hc j hlt
   have hb1 : some b1 ≠ some b := fun e => HNE.out _ rfl (by omega) (by injection e)
   have k0 := grown_cell hg c0 hb1
   have k1 := grown_cell hg c1 hb1
   have k2 := grown_cell hg c2 hb1
   have hrj := HR.out j hlt
   have HX : Hid (addAll k now a0 (l.take (j + 1)) = adL (addAll k now a0 (l.take j)) k now (l.getD j s0)) := by
    show _ = _
    rw [take_snocS (by rw [HL.out]; exact hlt), addAll_snoc]
   clear hc c0 c1 c2
   generalize addAll k now a0 (l.take j) = a1 at *
   generalize l.getD j s0 = s at *
   obtain ⟨s1, s2, s3⟩ := s
   dsimp only at *
   have hx := BoxS.new wr (s1, s2, s3)
   have hsw := hst.out.later (bal (Below.refl _ wr) (.cells #[.int .i64 s1, .bool s2, .int .i64 s3] 35))
   have hgw := hg.trans (grown_below (bal (Below.refl _ wr) (.cells #[.int .i64 s1, .bool s2, .int .i64 s3] 35)) (some b))
   have hadd := fun W hW => add_st b a1 k now (s1, s2, s3) W hW hrj
   go_wp2_with fail
   refine (hadd _ hsw).mono ?_
   rintro e w2 ⟨rfl, h2, hg2⟩
   clear hadd
   go_wp2
   go_roundw
   case rel =>
    refine ⟨j + 1, by omega, by go_num, ?_, hgw.trans hg2⟩
    show St _ _ _ _ _
    rw [HX.out]
    exact h2
   case measure => simp [intOf]; omega
  ·
   have hd : decide ((j : Int) < (m : Int)) = false := decide_eq_false (by omega)
   obtain rfl : j = m := by omega
   have HE : Hid (l.take j = l) := by show _ = _; rw [List.take_of_length_le (by rw [HL.out]; omega)]
   go_wp2
   go_returns
   refine ⟨rfl, ?_, hg⟩
   have := hst.out
   rw [HE.out] at this
   exact this
end Go.Proofs.YtjgckfcocmhnhaaGreatDoor.Sr
namespace Go.Proofs.YtjgckfcocmhnhaaGreatDoor.Ex
open Go.RowKit
/-- A window as it is reached: in memory those that could still be told, of all that are in it. -/
structure St (w : World) (b : Nat) (l : List Smp) (k now : Int) (g : Bool) : Prop where
 m : Rl w b (thn (kg g) l) k now g
 f : Wf l k now
theorem St.later {w w' : World} {b : Nat} {l : List Smp} {k now : Int} {g : Bool} (h : St w b l k now g) (hb : Below w.heap.size w w') : St w' b l k now g := ⟨h.m.later hb, h.f⟩
theorem St.kept {w w' : World} {b : Nat} {l : List Smp} {k now : Int} {g : Bool} (h : St w b l k now g) {row : Option Nat} (hg : w.grownBy w' row) (hne : some b ≠ row) : St w' b l k now g := ⟨h.m.kept hg hne, h.f⟩
theorem new_st (n : Int) (g : Bool) (w : World) : Calls Tryz.prog 117 #[.int .i64 n, .bool g] w fun e w' => e = .returned (.pointer (some ⟨w.heap.size, 0, none⟩)) ∧ St w' w.heap.size [] (clamp n) 0 g ∧ Below w.heap.size w w' :=
 (new_any n g w).mono fun _ _ ⟨h1, h2, h3⟩ => ⟨h1, ⟨Rl.new h2, Wf.none (clamp_range n) ⟨by omega, by omega⟩⟩, h3⟩
theorem adv_st (b : Nat) (l : List Smp) (k now n : Int) (g : Bool) (w : World) (h : St w b l k now g) :
  Calls Tryz.prog 181 #[.pointer (some ⟨b, 0, none⟩), .int .i64 n] w fun e w' => e = .returned (.tuple #[]) ∧ St w' b (fg (onw now n - k) l) k (onw now n) g ∧ w.grownBy w' (some b) :=
 (advance_any b _ k now n g w h.m h.f.k1 h.f.n1).mono fun _ _ ⟨h1, h2, h3⟩ => ⟨h1, ⟨by rw [← thn_fg _ _ _ h.f.so]; exact h2, h.f.advance n⟩, h3⟩
theorem add_st (b : Nat) (l : List Smp) (k now : Int) (g : Bool) (s : Smp) (w : World) (h : St w b l k now g) (hr : R64 s.2.2) :
  Calls Tryz.prog 180 #[.pointer (some ⟨b, 0, none⟩), sv s] w fun e w' => e = .returned (.int .i64 (adE l k now s.1)) ∧ St w' b (adL l k now s) k now g ∧ w.grownBy w' (some b) := by
 cases g with
 | true => exact (add_anyG b l k now s w h.m h.f hr).mono fun _ _ ⟨h1, h2, h3⟩ => ⟨h1, ⟨h2, h.f.add s hr⟩, h3⟩
 | false => exact (add_anyL b l k now s w h.m h.f hr).mono fun _ _ ⟨h1, h2, h3⟩ => ⟨h1, ⟨h2, h.f.add s hr⟩, h3⟩
/-- Who is told. -/
def bst (g : Bool) (l : List Smp) : Smp := (thn (kg g) l).getD 0 s0
theorem get_st (b : Nat) (l : List Smp) (k now : Int) (g : Bool) (w : World) (h : St w b l k now g) :
  Calls Tryz.prog 118 #[.pointer (some ⟨b, 0, none⟩)] w fun e w' => e = .returned (.tuple #[.agg #[.bool (bst g l).2.1, .int .i64 (bst g l).2.2], .bool (!l.isEmpty)]) ∧ Below w.heap.size w w' := by
 have e : (thn (kg g) l).isEmpty = l.isEmpty := by
  by_cases h : l = []
  ·
   rw [h]; rfl
  ·
   have h' : thn (kg g) l ≠ [] := fun e => h (thn_nil.1 e)
   cases h1 : thn (kg g) l with
   | nil => exact absurd h1 h'
   | cons a r => cases l with
    | nil => exact absurd rfl h
    | cons => rfl
 have := get_any b _ k now g w h.m
 rw [e] at this
 exact this
theorem St.cc {w : World} {b : Nat} {l : List Smp} {k now : Int} {g : Bool} (h : St w b l k now g) : w.cell? ⟨b, 301, none⟩ = some (.int .i64 (thn (kg g) l).length) := by
 obtain ⟨f, o, ho, hl, hr, hf⟩ := h.m
 exact hr.cc
theorem St.lt {w : World} {b : Nat} {l : List Smp} {k now : Int} {g : Bool} (h : St w b l k now g) : b < w.heap.size := h.m.lt
theorem kn_of (n : Int) (m : Int) (h : fOf n = some m) (hn : R64 n) (w : World) : Calls Tryz.prog 18 #[.int .i64 n] w fun e w' => e = .returned (.agg #[.bool false, .int .i64 m]) ∧ Below w.heap.size w w' := by
 have := of_any n w hn
 rw [h] at this
 exact this
theorem r64_lit {n : Int} (h : (decide (-9223372036854775808 ≤ n) && decide (n ≤ 9223372036854775807)) = true) : R64 n := by
 rw [Bool.and_eq_true, decide_eq_true_eq, decide_eq_true_eq] at h
 exact h
end Go.Proofs.YtjgckfcocmhnhaaGreatDoor.Ex
namespace Go.Proofs.YtjgckfcocmhnhaaGreatDoor.Sr
open Go.RowKit Rn
theorem ex_fg (t : Int) : ∀ l : List Smp, Ex.fg t l = fg t l
 | [] => rfl
 | s :: r => by unfold Ex.fg fg; rw [ex_fg t r]
theorem adv_ext (b : Nat) (l : List Smp) (k now n : Int) (g : Bool) (w : World) (h : Ex.St w b l k now g) :
  Calls Tryz.prog 181 #[.pointer (some ⟨b, 0, none⟩), .int .i64 n] w fun e w' => e = .returned (.tuple #[]) ∧ Ex.St w' b (fg (onw now n - k) l) k (onw now n) g ∧ w.grownBy w' (some b) := by
 have h1 := Ex.adv_st b l k now n g w h
 rw [ex_fg] at h1
 exact h1
set_option maxHeartbeats 4000000 in
theorem fill_ext (b : Nat) (l0 : List Smp) (k nw t : Int) (gr : Bool) (ao : Option Addr) (m cap : Nat) (l : List Smp) (w : World) (h : Ex.St w b l0 k nw gr) (hm : m ≤ 1000) (hl : Ms w ao m l) (hne : ∀ a, ao = some a → 0 < m → a.block ≠ b) (hr : ∀ s ∈ l, R64 s.2.2) :
  Calls Tryz.prog 70 #[.iface 158 (.pointer (some ⟨b, 0, none⟩)), .int .i64 t, .slice ao m cap] w fun e w' => e = .returned (.tuple #[]) ∧ Ex.St w' b (addAll k (onw nw t) (fg (onw nw t - k) l0) l) k (onw nw t) gr ∧ w.grownBy w' (some b) := by
 have hadv := fun W hW => adv_ext b l0 k nw t gr W hW
 obtain ⟨hll, hlc⟩ := hl
 have HL : Hid (l.length = m) := hll
 have HB : Hid (b < w.heap.size) := h.m.lt
 have HNE : Hid (∀ a, ao = some a → 0 < m → a.block ≠ b) := hne
 have HLC : Hid _ := hlc
 have HR : Hid (∀ j, j < m → R64 (l.getD j s0).2.2) := fun j hj => hr _ (by rw [List.getD_eq_getElem?_getD, List.getElem?_eq_getElem (by rw [HL.out]; exact hj)]; exact List.getElem_mem _)
 clear hll hlc hne hr
 generalize onw nw t = now at *
 generalize fg (now - k) l0 = a0 at *
 go_enter Tryz.func70, Tryz.ntmps70
 go_wp2_with fail
 refine (hadv _ h).mono ?_
 rintro e w1 ⟨rfl, h1, hg1⟩
 clear hadv
 have hmi : (m : Int) ≤ 1000 := by omega
 go_wp2
 go_loopw [13] (fun i wr => ∃ j : Nat, j ≤ m ∧ i = .int .i64 j ∧ Hid (Ex.St wr b (addAll k now a0 (l.take j)) k now gr) ∧ w.grownBy wr (some b)) (fun i _ => m - (intOf i).toNat)
 case atStart => exact ⟨0, by omega, rfl, h1, hg1⟩
 case round =>
  obtain ⟨j, hj, rfl, hst, hg⟩ := hrel
  by_cases hlt : j < m
  ·
   have hd : decide ((j : Int) < (m : Int)) = true := decide_eq_true (by omega)
   obtain ⟨b1, o1, rfl, hc⟩ := HLC.out (by omega)
   obtain ⟨c0, c1, c2⟩ := hc j hlt
   have hb1 : some b1 ≠ some b := fun e => HNE.out _ rfl (by omega) (by injection e)
   have k0 := grown_cell hg c0 hb1
   have k1 := grown_cell hg c1 hb1
   have k2 := grown_cell hg c2 hb1
   have hrj := HR.out j hlt
   have HX : Hid (addAll k now a0 (l.take (j + 1)) = adL (addAll k now a0 (l.take j)) k now (l.getD j s0)) := by
    show _ = _
    rw [take_snocS (by rw [HL.out]; exact hlt), addAll_snoc]
   clear hc c0 c1 c2
   generalize addAll k now a0 (l.take j) = a1 at *
   generalize l.getD j s0 = s at *
   obtain ⟨s1, s2, s3⟩ := s
   dsimp only at *
   have hx := BoxS.new wr (s1, s2, s3)
   have hsw := hst.out.later (bal (Below.refl _ wr) (.cells #[.int .i64 s1, .bool s2, .int .i64 s3] 35))
   have hgw := hg.trans (grown_below (bal (Below.refl _ wr) (.cells #[.int .i64 s1, .bool s2, .int .i64 s3] 35)) (some b))
   have hadd := fun W hW => Ex.add_st b a1 k now gr (s1, s2, s3) W hW hrj
   go_wp2_with fail
   refine (hadd _ hsw).mono ?_
   rintro e w2 ⟨rfl, h2, hg2⟩
   clear hadd
   go_wp2
   go_roundw
   case rel =>
    refine ⟨j + 1, by omega, by go_num, ?_, hgw.trans hg2⟩
    show Ex.St _ _ _ _ _ _
    rw [HX.out]
    exact h2
   case measure => simp [intOf]; omega
  ·
   have hd : decide ((j : Int) < (m : Int)) = false := decide_eq_false (by omega)
   obtain rfl : j = m := by omega
   have HE : Hid (l.take j = l) := by show _ = _; rw [List.take_of_length_le (by rw [HL.out]; omega)]
   go_wp2
   go_returns
   refine ⟨rfl, ?_, hg⟩
   have := hst.out
   rw [HE.out] at this
   exact this
/-- ringOf: a ring of that width at now, with those of the samples that are in it. -/
theorem ring_any (kk t : Int) (ao : Option Addr) (m cap : Nat) (l : List Smp) (w : World) (hk : 1 ≤ kk ∧ kk ≤ 100) (ht : 0 ≤ t ∧ t ≤ 1000000) (hm : m ≤ 1000) (hl : Ms w ao m l) (hr : ∀ s ∈ l, R64 s.2.2) :
  Calls Tryz.prog 35 #[.int .i64 kk, .int .i64 t, .slice ao m cap] w fun e w' => e = .returned (.pointer (some ⟨w.heap.size, 0, none⟩)) ∧ St w' w.heap.size (addAll kk t [] l) kk t ∧ Below w.heap.size w w' := by
 have hnew := fun W => new_st kk W
 have ec : clamp kk = kk := by unfold clamp; rw [if_neg (by omega), if_neg (by omega)]
 have eo : onw 0 t = t := by unfold onw; omega
 rw [ec] at hnew
 have hf := fun W hW hlW hn => fill_ring w.heap.size [] kk 0 t ao m cap l W hW hm hlW hn hr
 rw [eo] at hf
 have HLT : Hid (∀ a, ao = some a → 0 < m → a.block < w.heap.size) := by
  intro a ha hp
  obtain ⟨b, off, e, hc⟩ := hl.2 hp
  rw [e] at ha
  cases ha
  exact World.block_lt_of_cell? _ _ (hc 0 hp).1
 clear ec eo
 go_enter Tryz.func35, Tryz.ntmps35
 go_wp2_with fail
 refine (hnew _).mono ?_
 rintro e w1 ⟨rfl, h1, hb1⟩
 have hl1 := hl.later hb1
 clear hnew
 go_wp2_with fail
 refine (hf _ h1 hl1 (fun a ha hp e => by have := HLT.out a ha hp; omega)).mono ?_
 rintro e w2 ⟨rfl, h2, hg2⟩
 go_wp2
 go_ret
 exact ⟨rfl, h2, grown_above hb1 hg2 hb1.size (Nat.le_refl _)⟩
end Go.Proofs.YtjgckfcocmhnhaaGreatDoor.Sr
namespace Go.Proofs.YtjgckfcocmhnhaaGreatDoor.Sr
open Go.RowKit Rn
/-- Three cells of one's own. -/
structure BoxV (w : World) (b : Nat) (u0 u1 u2 : Value) : Prop where
 c0 : w.cell? ⟨b, 0, none⟩ = some u0
 c1 : w.cell? ⟨b, 1, none⟩ = some u1
 c2 : w.cell? ⟨b, 2, none⟩ = some u2
 f0 : w.frozen? ⟨b, 0, none⟩ = false
 f1 : w.frozen? ⟨b, 1, none⟩ = false
 f2 : w.frozen? ⟨b, 2, none⟩ = false
theorem BoxV.new (w : World) (u0 u1 u2 : Value) (e : TypeId) : BoxV (w.alloc (.cells #[u0, u1, u2] e)) w.heap.size u0 u1 u2 := by
 constructor <;> simp [go_sem]
theorem BoxV.kept {w w' : World} {b : Nat} {u0 u1 u2 : Value} (h : BoxV w b u0 u1 u2) {row : Option Nat} (hg : w.grownBy w' row) (hne : some b ≠ row) : BoxV w' b u0 u1 u2 :=
 ⟨grown_cell hg h.c0 hne, grown_cell hg h.c1 hne, grown_cell hg h.c2 hne, grown_frozen hg (World.block_lt_of_cell? _ _ h.c0) h.f0 hne, grown_frozen hg (World.block_lt_of_cell? _ _ h.c0) h.f1 hne, grown_frozen hg (World.block_lt_of_cell? _ _ h.c0) h.f2 hne⟩
theorem BoxV.later {w w' : World} {b : Nat} {u0 u1 u2 : Value} (h : BoxV w b u0 u1 u2) (hb : Below w.heap.size w w') : BoxV w' b u0 u1 u2 := h.kept (grown_below hb none) (by simp)
abbrev set3V (w : World) (b : Nat) (u0 u1 u2 : Value) : World := ((w.setCell ⟨b, 0, none⟩ u0).setCell ⟨b, 1, none⟩ u1).setCell ⟨b, 2, none⟩ u2
theorem BoxV.put {w : World} {b : Nat} {u0 u1 u2 : Value} (h : BoxV w b u0 u1 u2) (v0 v1 v2 : Value) : BoxV (set3V w b v0 v1 v2) b v0 v1 v2 := by
 have e0 := fun (j : Nat) => set_at (j := j) (v := v0) h.c0
 have d1 : (w.setCell ⟨b, 0, none⟩ v0).cell? ⟨b, 1, none⟩ = some u1 := by rw [e0, if_neg (by decide)]; exact h.c1
 have e1 := fun (j : Nat) => set_at (j := j) (v := v1) d1
 have d2 : ((w.setCell ⟨b, 0, none⟩ v0).setCell ⟨b, 1, none⟩ v1).cell? ⟨b, 2, none⟩ = some u2 := by rw [e1, if_neg (by decide), e0, if_neg (by decide)]; exact h.c2
 have e2 := fun (j : Nat) => set_at (j := j) (v := v2) d2
 refine ⟨?_, ?_, ?_, ?_, ?_, ?_⟩
 ·
  rw [e2, if_neg (by decide), e1, if_neg (by decide), e0, if_pos rfl]
 ·
  rw [e2, if_neg (by decide), e1, if_pos rfl]
 ·
  rw [e2, if_pos rfl]
 ·
  simpa [set3V] using h.f0
 ·
  simpa [set3V] using h.f1
 ·
  simpa [set3V] using h.f2
theorem below3V {B : Nat} {a w : World} (h : Below B a w) {b : Nat} (hb : B ≤ b) (u0 u1 u2 : Value) : Below B a (set3V w b u0 u1 u2) := ((h.setCell (p := ⟨b, 0, none⟩) hb _).setCell (p := ⟨b, 1, none⟩) hb _).setCell (p := ⟨b, 2, none⟩) hb _
/-- A window's width. -/
def wd (d : Int) : Int := min (max d 1) 100
theorem wd_range (d : Int) : 1 ≤ wd d ∧ wd d ≤ 100 := by unfold wd; omega
/-- A window in memory as it is handed on. -/
abbrev pv (b : Nat) (k t : Int) : Value := .agg #[.pointer (some ⟨b, 0, none⟩), .int .i64 k, .int .i64 t]
theorem past_of (d t : Int) (ao : Option Addr) (m cap : Nat) (l : List Smp) (w : World) (ht : 0 ≤ t ∧ t ≤ 1000000) (hm : m ≤ 1000) (hl : Ms w ao m l) (hr : ∀ s ∈ l, R64 s.2.2) :
  Calls Tryz.prog 90 #[.int .i64 d, .int .i64 t, .slice ao m cap] w fun e w' => e = .returned (pv (w.heap.size + 1) (wd d) t) ∧ St w' (w.heap.size + 1) (addAll (wd d) t [] l) (wd d) t ∧ Below w.heap.size w w' := by
 have hk := wd_range d
 have hring := fun W hlW => ring_any (wd d) t ao m cap l W hk ht hm hlW hr
 have e0 : min (max d 1) 100 = wd d := rfl
 generalize wd d = k at *
 have hb0 := bal (Below.refl _ w) (.cells #[.pointer none, .int .i64 0, .int .i64 0] 109)
 have hl0 := hl.later hb0
 go_enter Tryz.func90, Tryz.ntmps90
 go_wp2_with fail
 have hx := BoxV.new w (.pointer none) (.int .i64 0) (.int .i64 0) 109
 have es : (w.alloc (.cells #[.pointer none, .int .i64 0, .int .i64 0] 109)).heap.size = w.heap.size + 1 := by simp
 refine (hring _ hl0).mono ?_
 rw [es]
 rintro e w2 ⟨rfl, h2, hb2⟩
 have hb2' : Below w.heap.size w w2 := hb0.trans (hb2.mono (by omega))
 obtain ⟨c0, c1, c2, f0, f1, f2⟩ := hx.later (by rw [es]; exact hb2)
 obtain ⟨p0, p1, p2, _, _, _⟩ := (hx.later (by rw [es]; exact hb2)).put (.pointer (some ⟨w.heap.size + 1, 0, none⟩)) (.int .i64 k) (.int .i64 t)
 clear hring es
 go_wp2
 exact bodyPost_ret (v := pv (w.heap.size + 1) k t) (by simp [results, Tryz.results90, go_sem, p0, p1, p2]) rfl ⟨rfl, h2.kept (((grown_set _ _ _ _).trans (grown_set _ _ _ _)).trans (grown_set _ _ _ _) : w2.grownBy _ (some w.heap.size)) (by simp), below3V hb2' (Nat.le_refl _) _ _ _⟩
end Go.Proofs.YtjgckfcocmhnhaaGreatDoor.Sr
namespace Go.Proofs.YtjgckfcocmhnhaaGreatDoor.Sr
open Go.RowKit Rn
/-- A series as it lies: its labels' slice, its window's block, its set, its samples, its window's time. -/
structure SRec where
 lab : Value
 ring : Nat
 set : List Lb.Pr
 l : List Smp
 t : Int
def r0 : SRec := ⟨.slice none 0 0, 0, [], [], 0⟩
def twoO (r : SRec) : List Value := [r.lab, .pointer (some ⟨r.ring, 0, none⟩)]
def cellsO (rs : List SRec) : List Value := rs.flatMap twoO
theorem cellsO_cons (r : SRec) (rs : List SRec) : cellsO (r :: rs) = r.lab :: .pointer (some ⟨r.ring, 0, none⟩) :: cellsO rs := rfl
theorem cellsO_append (a b : List SRec) : cellsO (a ++ b) = cellsO a ++ cellsO b := by simp [cellsO]
theorem cellsO_length (rs : List SRec) : (cellsO rs).length = rs.length * 2 := by
 induction rs with
 | nil => rfl
 | cons r rs ih => rw [cellsO_cons, List.length_cons, List.length_cons, ih, List.length_cons]; omega
theorem cellsO_one {rs : List SRec} (h : ∀ r ∈ rs, r.lab.oneCell' = true) : ∀ u ∈ cellsO rs, u.oneCell' = true := by
 intro u hu
 obtain ⟨r, hr, hx⟩ := List.mem_flatMap.1 hu
 simp only [twoO, List.mem_cons, List.not_mem_nil, or_false] at hx
 rcases hx with rfl | rfl
 ·
  exact h r hr
 ·
  rfl
theorem cellsO_get {rs : List SRec} {j : Nat} (h : j < rs.length) : (cellsO rs)[j * 2]? = some (rs.getD j r0).lab ∧ (cellsO rs)[j * 2 + 1]? = some (.pointer (some ⟨(rs.getD j r0).ring, 0, none⟩)) := by
 induction rs generalizing j with
 | nil => simp at h
 | cons p l ih =>
  rw [cellsO_cons]
  cases j with
  | zero => simp
  | succ j =>
   have := ih (j := j) (by simpa using h)
   rw [show (j + 1) * 2 = j * 2 + 2 by omega]
   simpa using this
/-- A slice of series that reads as rs. -/
def Os (w : World) (ao : Option Addr) (n : Nat) (rs : List SRec) : Prop :=
 rs.length = n ∧ (0 < n → ∃ b, ao = some ⟨b, 0, none⟩ ∧ Ty w b 74 ∧ ∀ j, j < n → w.cell? ⟨b, j * 2, none⟩ = some (rs.getD j r0).lab ∧ w.cell? ⟨b, j * 2 + 1, none⟩ = some (.pointer (some ⟨(rs.getD j r0).ring, 0, none⟩)))
theorem Os.kept {w w' : World} {ao : Option Addr} {n : Nat} {rs : List SRec} (h : Os w ao n rs) {row : Option Nat} (hg : w.grownBy w' row) (hne : ∀ a, ao = some a → 0 < n → some a.block ≠ row) : Os w' ao n rs := by
 refine ⟨h.1, fun hp => ?_⟩
 obtain ⟨b, e, ht, hc⟩ := h.2 hp
 have hn := hne _ e hp
 exact ⟨b, e, ht.kept hg hn, fun j hj => ⟨grown_cell hg (hc j hj).1 hn, grown_cell hg (hc j hj).2 hn⟩⟩
theorem Os.later {w w' : World} {ao : Option Addr} {n : Nat} {rs : List SRec} (h : Os w ao n rs) (hb : Below w.heap.size w w') : Os w' ao n rs := h.kept (grown_below hb none) (by simp)
/-- New memory of its own that holds these series. -/
def OwnO (w : World) (base : Nat) (v : Value) (rs : List SRec) : Prop := w.ownsRow base 74 2 v rs.length (cellsO rs)
theorem OwnO.slice {w : World} {base : Nat} {ao : Option Addr} {n cap : Nat} {rs : List SRec} (h : OwnO w base (.slice ao n cap) rs) : n = rs.length ∧ Os w ao n rs := by
 have h' := h
 rcases h.2 with ⟨e, h0⟩ | ⟨g, c, cur, e, hb, hg, hn, _, hs, ht⟩
 ·
  injection e with e1 e2 e3
  have : rs = [] := List.length_eq_zero_iff.1 h0
  subst this
  subst e2
  exact ⟨rfl, rfl, fun h => by omega⟩
 ·
  injection e with e1 e2 e3
  subst e1
  refine ⟨e2, e2.symm, fun _ => ⟨g, rfl, row_ty h' rfl, fun j hj => ?_⟩⟩
  rw [e2] at hj
  have e : ∀ i, i < rs.length * 2 → w.cell? ⟨g, i, none⟩ = (cellsO rs)[i]? := fun i hi => by
   rw [cell_of_row _ _ _ _ _ _ hg, ← ht, List.getElem?_take_of_lt hi]
   exact (Array.getElem?_toList).symm
  obtain ⟨g1, g2⟩ := cellsO_get hj
  exact ⟨(e _ (by omega)).trans g1, (e (j * 2 + 1) (by omega)).trans g2⟩
/-- A store's memory. -/
structure Sx (w : World) (sb : Nat) (now : Int) (base : Nat) (ao : Option Addr) (n cap : Nat) (rs : List SRec) : Prop where
 c0 : w.cell? ⟨sb, 0, none⟩ = some (.slice ao n cap)
 c1 : w.cell? ⟨sb, 1, none⟩ = some (.int .i64 now)
 f0 : w.frozen? ⟨sb, 0, none⟩ = false
 f1 : w.frozen? ⟨sb, 1, none⟩ = false
 t : Ty w sb 71
 p : OwnO w base (.slice ao n cap) rs
 q : ∀ r ∈ rs, Pq w r.lab r.set
 s : ∀ r ∈ rs, St w r.ring r.l 100 r.t
 n1 : ∀ r ∈ rs, r.ring ≠ sb
 n2 : ∀ r ∈ rs, ∀ g, (Value.slice ao n cap).ownBlock = some g → g ≠ r.ring
 n3 : ∀ r ∈ rs, ∀ x ∈ rs, ∀ g, x.lab.ownBlock = some g → g ≠ r.ring
 ap : rs.Pairwise (fun a b => a.ring ≠ b.ring)
theorem Sx.len {w : World} {sb : Nat} {now : Int} {base : Nat} {ao : Option Addr} {n cap : Nat} {rs : List SRec} (h : Sx w sb now base ao n cap rs) : rs.length = n := h.p.slice.1.symm
theorem Sx.os {w : World} {sb : Nat} {now : Int} {base : Nat} {ao : Option Addr} {n cap : Nat} {rs : List SRec} (h : Sx w sb now base ao n cap rs) : Os w ao n rs := h.p.slice.2
/-- A store's blocks. -/
def Ft (sb : Nat) (v : Value) (rs : List SRec) (k : Nat) : Prop := k = sb ∨ v.ownBlock = some k ∨ ∃ r ∈ rs, k = r.ring
theorem Sx.kept {w w' : World} {sb : Nat} {now : Int} {base : Nat} {ao : Option Addr} {n cap : Nat} {rs : List SRec} (h : Sx w sb now base ao n cap rs) {row : Option Nat} (hg : w.grownBy w' row) (hne : ∀ k, Ft sb (.slice ao n cap) rs k ∨ Ty w k 45 → some k ≠ row) : Sx w' sb now base ao n cap rs := by
 have h1 := hne sb (Or.inl (Or.inl rfl))
 refine ⟨grown_cell hg h.c0 h1, grown_cell hg h.c1 h1, grown_frozen hg h.t.lt h.f0 h1, grown_frozen hg h.t.lt h.f1 h1, h.t.kept hg h1, row_kept h.p hg (fun g e => hne g (Or.inl (Or.inr (Or.inl e)))), fun r hr => ?_, fun r hr => ?_, h.n1, h.n2, h.n3, h.ap⟩
 ·
  exact (h.q r hr).gf (F := fun k => row = some k) (Gf.of hg (fun k e _ => e)) (fun g ht e => hne g (Or.inr ht) e.symm)
 ·
  have h2 := hne r.ring (Or.inl (Or.inr (Or.inr ⟨r, hr, rfl⟩)))
  exact (h.s r hr).kept hg h2
theorem Sx.later {w w' : World} {sb : Nat} {now : Int} {base : Nat} {ao : Option Addr} {n cap : Nat} {rs : List SRec} (h : Sx w sb now base ao n cap rs) (hb : Below w.heap.size w w') : Sx w' sb now base ao n cap rs := h.kept (grown_below hb none) (by simp)
end Go.Proofs.YtjgckfcocmhnhaaGreatDoor.Sr
namespace Go.Proofs.YtjgckfcocmhnhaaGreatDoor.Sr
open Go.RowKit Rn
theorem clo_any (lab : Value) (rb : Nat) (a : List Lb.Pr) (qa : Option Addr) (qn qc : Nat) (q : List Lb.Pr) (w : World) (ha : Pq w lab a) (hn : qn ≤ 1000000) (hq : Lb.Ps w qa qn q) :
  Calls Tryz.prog 65 #[.agg #[lab, .pointer (some ⟨rb, 0, none⟩)], .slice qa qn qc] w fun e w' => e = .returned (.int .i64 (Lb.fCmp a q)) ∧ Below w.heap.size w w' := by
 obtain ⟨xa, xn, xc, rfl, hxn, hp, -⟩ := ha
 have hb0 := bal (Below.refl _ w) (.cells #[.slice xa xn xc, .pointer (some ⟨rb, 0, none⟩)] 74)
 have hc := fun W h1 h2 => Lb.cmp_any xa xn xc a qa qn qc q W (by omega) (by omega) h1 h2
 have hp0 := hp.later hb0
 have hq0 := hq.later hb0
 generalize Lb.fCmp a q = r at *
 go_enter Tryz.func65, Tryz.ntmps65
 go_wp2_with fail
 refine (hc _ hp0 hq0).mono ?_
 rintro e w1 ⟨rfl, hb1⟩
 go_wp2
 go_ret
 exact ⟨rfl, Below.chain hb0 hb1⟩
/-- Where q stands among sets, or would. -/
def posR (q : List Lb.Pr) (rs : List SRec) : Nat := rs.findIdx fun r => decide (0 ≤ Lb.fCmp r.set q)
theorem posR_le (q : List Lb.Pr) (rs : List SRec) : posR q rs ≤ rs.length := List.findIdx_le_length
theorem posR_lt {q : List Lb.Pr} {rs : List SRec} {i : Nat} (h : i < posR q rs) : Lb.fCmp (rs.getD i r0).set q < 0 := by
 have hl : i < rs.length := Nat.lt_of_lt_of_le h (posR_le q rs)
 have := List.not_of_lt_findIdx h
 rw [List.getD_eq_getElem?_getD, List.getElem?_eq_getElem hl]
 simpa using this
theorem posR_ge {q : List Lb.Pr} {rs : List SRec} (h : posR q rs < rs.length) : 0 ≤ Lb.fCmp (rs.getD (posR q rs) r0).set q := by
 have := List.findIdx_getElem (w := h)
 rw [List.getD_eq_getElem?_getD, List.getElem?_eq_getElem h]
 exact of_decide_eq_true this
theorem posR_eq {q : List Lb.Pr} {rs : List SRec} {p : Nat} (hp : p ≤ rs.length) (h1 : ∀ i, i < p → Lb.fCmp (rs.getD i r0).set q < 0) (h2 : ∀ i, p ≤ i → i < rs.length → 0 ≤ Lb.fCmp (rs.getD i r0).set q) : p = posR q rs := by
 rcases Nat.lt_trichotomy p (posR q rs) with h | h | h
 ·
  have := h2 p (Nat.le_refl _) (Nat.lt_of_lt_of_le h (posR_le q rs))
  have := posR_lt h
  omega
 ·
  exact h
 ·
  have := posR_ge (q := q) (rs := rs) (by omega)
  have := h1 _ h
  omega
/-- Sets in their order. -/
def Srt (rs : List SRec) : Prop := rs.Pairwise fun a b => Lb.fCmp a.set b.set < 0
theorem neg_one {a b : List Lb.Pr} (h : Lb.fCmp a b < 0) : Lb.fCmp a b = -1 := by
 rcases Lb.fCmp_cases a b with h1 | h1 | h1 <;> omega
theorem Srt.mono {rs : List SRec} (h : Srt rs) {q : List Lb.Pr} {i j : Nat} (hij : i ≤ j) (hj : j < rs.length) (hc : Lb.fCmp (rs.getD j r0).set q < 0) : Lb.fCmp (rs.getD i r0).set q < 0 := by
 rcases Nat.lt_or_ge i j with hlt | hge
 ·
  have := List.pairwise_iff_getElem.1 h i j (by omega) hj hlt
  rw [List.getD_eq_getElem?_getD, List.getElem?_eq_getElem hj] at hc
  rw [List.getD_eq_getElem?_getD, List.getElem?_eq_getElem (by omega)]
  have := Lb.fCmp_trans (neg_one this) (neg_one hc)
  show Lb.fCmp _ _ < 0
  simp only [Option.getD_some]
  omega
 ·
  obtain rfl : i = j := by omega
  exact hc
/-- Is there a series of just these labels? -/
def fndR (q : List Lb.Pr) (rs : List SRec) : Bool := decide (posR q rs < rs.length) && decide (Lb.fCmp (rs.getD (posR q rs) r0).set q = 0)
set_option maxHeartbeats 8000000 in
theorem bin_any (ao : Option Addr) (n cap : Nat) (rs : List SRec) (qa : Option Addr) (qn qc : Nat) (q : List Lb.Pr) (w : World) (hn : n ≤ 1000) (ho : Os w ao n rs) (hp : ∀ r ∈ rs, Pq w r.lab r.set) (hs : Srt rs) (hqn : qn ≤ 1000000) (hq : Lb.Ps w qa qn q) :
  Calls Tryz.prog 64 #[.slice ao n cap, .slice qa qn qc, .func (.func 65) #[] #[]] w fun e w' => e = .returned (.tuple #[.int .i64 (posR q rs), .bool (fndR q rs)]) ∧ Below w.heap.size w w' := by
 have HN : Hid (rs.length = n) := ho.1
 have HO : Hid (∀ W, Below w.heap.size w W → Os W ao n rs) := fun W hW => ho.later hW
 have HQ : Hid (∀ W, Below w.heap.size w W → Lb.Ps W qa qn q) := fun W hW => hq.later hW
 have HP : Hid (∀ W, Below w.heap.size w W → ∀ j, j < n → Pq W (rs.getD j r0).lab (rs.getD j r0).set) := fun W hW j hj => (hp _ (by rw [List.getD_eq_getElem?_getD, List.getElem?_eq_getElem (by rw [HN.out]; exact hj)]; exact List.getElem_mem _)).later hW
 have HM : Hid (Srt rs) := hs
 clear ho hq hp hs
 go_enter Tryz.func64, Tryz.ntmps64
 go_wp2
 go_loopw [9, 10] (fun lo hi wr => ∃ p z : Nat, lo = .int .i64 p ∧ hi = .int .i64 z ∧ p ≤ z ∧ z ≤ n ∧ Hid ((∀ i, i < p → Lb.fCmp (rs.getD i r0).set q < 0) ∧ (∀ i, z ≤ i → i < n → 0 ≤ Lb.fCmp (rs.getD i r0).set q)) ∧ Below w.heap.size w wr) (fun lo hi _ => (intOf hi).toNat - (intOf lo).toNat)
 case atStart => exact ⟨0, n, rfl, rfl, Nat.zero_le _, Nat.le_refl _, ⟨fun i hi => absurd hi (Nat.not_lt_zero _), fun i h1 h2 => by omega⟩, Below.refl _ _⟩
 case round =>
  obtain ⟨p, z, rfl, rfl, hpz, hzn, HI, hb⟩ := hrel
  by_cases hlt : p < z
  ·
   have hd : decide ((p : Int) < (z : Int)) = true := decide_eq_true (by omega)
   obtain ⟨-, hoc⟩ := HO.out wr hb
   obtain ⟨g, rfl, -, hc⟩ := hoc (by omega)
   obtain ⟨c0, c1⟩ := hc ((p + z) / 2) (by omega)
   have hpq := HP.out wr hb ((p + z) / 2) (by omega)
   have hqs := HQ.out wr hb
   have HY : Hid (∀ x, (rs.getD ((p + z) / 2) r0).set = x → (Lb.fCmp x q < 0 → ∀ i, i < (p + z) / 2 + 1 → Lb.fCmp (rs.getD i r0).set q < 0) ∧ (¬ Lb.fCmp x q < 0 → ∀ i, (p + z) / 2 ≤ i → i < n → 0 ≤ Lb.fCmp (rs.getD i r0).set q)) := by
    rintro x rfl
    exact ⟨fun h i hi => HM.out.mono (by omega) (by rw [HN.out]; omega) h, fun h i h1 h2 => Int.not_lt.1 fun h3 => h (HM.out.mono h1 (by rw [HN.out]; exact h2) h3)⟩
   clear hc hoc
   generalize rs.getD ((p + z) / 2) r0 = y at *
   obtain ⟨lab, rb, sy, ly, ty⟩ := y
   have HY2 := HY.out sy rfl
   have HY3 : Hid _ := HY2
   clear HY2 HY
   dsimp only at *
   have hclo := clo_any lab rb sy qa qn qc q wr hpq hqn hqs
   generalize hfc : Lb.fCmp sy q = r at *
   by_cases hr : r < 0
   ·
    have hd2 : decide (r < 0) = true := decide_eq_true hr
    have HI2 : Hid (∀ i, i < (p + z) / 2 + 1 → Lb.fCmp (rs.getD i r0).set q < 0) := HY3.out.1 hr
    go_wp2_with fail
    refine hclo.mono ?_
    rintro e w1 ⟨rfl, hb1⟩
    go_wp2
    go_roundw
    case rel => exact ⟨(p + z) / 2 + 1, z, by go_num, rfl, by omega, hzn, ⟨HI2.out, HI.out.2⟩, Below.chain hb hb1⟩
    case measure => simp [intOf]; omega
   ·
    have hd2 : decide (r < 0) = false := decide_eq_false hr
    have HI2 : Hid (∀ i, (p + z) / 2 ≤ i → i < n → 0 ≤ Lb.fCmp (rs.getD i r0).set q) := HY3.out.2 hr
    go_wp2_with fail
    refine hclo.mono ?_
    rintro e w1 ⟨rfl, hb1⟩
    go_wp2
    go_roundw
    case rel => exact ⟨p, (p + z) / 2, rfl, by go_num, by omega, by omega, ⟨HI.out.1, HI2.out⟩, Below.chain hb hb1⟩
    case measure => simp [intOf]; omega
  ·
   have hd : decide ((p : Int) < (z : Int)) = false := decide_eq_false (by omega)
   obtain rfl : p = z := by omega
   have HPE : Hid (p = posR q rs) := posR_eq (by rw [HN.out]; exact hzn) HI.out.1 (fun i h1 h2 => HI.out.2 i h1 (by rw [← HN.out]; exact h2))
   clear hd
   by_cases hpn : p < n
   ·
    obtain ⟨-, hoc⟩ := HO.out wr hb
    obtain ⟨g, rfl, -, hc⟩ := hoc (by omega)
    obtain ⟨c0, c1⟩ := hc p hpn
    have hpq := HP.out wr hb p hpn
    have hqs := HQ.out wr hb
    have HF : Hid (fndR q rs = decide (Lb.fCmp (rs.getD p r0).set q = 0)) := by
     show _ = _
     unfold fndR
     rw [← HPE.out, decide_eq_true (by rw [HN.out]; exact hpn), Bool.true_and]
    clear hc hoc
    generalize rs.getD p r0 = y at *
    obtain ⟨lab, rb, sy, ly, ty⟩ := y
    dsimp only at *
    have hclo := clo_any lab rb sy qa qn qc q wr hpq hqn hqs
    generalize Lb.fCmp sy q = r at *
    have hd : decide ((p : Int) < (p : Int)) = false := decide_eq_false (by omega)
    have hd2 : decide ((p : Int) < (n : Int)) = true := decide_eq_true (by omega)
    by_cases hr : r = 0
    ·
     have HF2 : Hid (fndR q rs = true) := by show _ = _; rw [HF.out]; exact decide_eq_true hr
     clear HF
     have hd3 : (r == 0) = true := beq_iff_eq.2 hr
     clear hr
     go_wp2_with fail
     refine hclo.mono ?_
     rintro e w1 ⟨rfl, hb1⟩
     go_wp2
     go_ret2
     exact ⟨by rw [HF2.out, ← HPE.out]; rfl, Below.chain hb hb1⟩
    ·
     have HF2 : Hid (fndR q rs = false) := by show _ = _; rw [HF.out]; exact decide_eq_false hr
     clear HF
     have hd3 : (r == 0) = false := beq_eq_false_iff_ne.2 hr
     clear hr
     go_wp2_with fail
     refine hclo.mono ?_
     rintro e w1 ⟨rfl, hb1⟩
     go_wp2
     go_ret2
     exact ⟨by rw [HF2.out, ← HPE.out]; rfl, Below.chain hb hb1⟩
   ·
    have HF2 : Hid (fndR q rs = false) := by
     show _ = _
     unfold fndR
     rw [← HPE.out, decide_eq_false (by rw [HN.out]; exact hpn), Bool.false_and]
    have hd : decide ((p : Int) < (p : Int)) = false := decide_eq_false (by omega)
    have hd2 : decide ((p : Int) < (n : Int)) = false := decide_eq_false (by omega)
    go_wp2
    go_ret2
    exact ⟨by rw [HF2.out, ← HPE.out]; rfl, hb⟩
theorem find_any (sb : Nat) (now : Int) (base : Nat) (ao : Option Addr) (n cap : Nat) (rs : List SRec) (qa : Option Addr) (qn qc : Nat) (q : List Lb.Pr) (w : World) (hn : n ≤ 1000) (h : Sx w sb now base ao n cap rs) (hs : Srt rs) (hqn : qn ≤ 1000000) (hq : Lb.Ps w qa qn q) :
  Calls Tryz.prog 32 #[.pointer (some ⟨sb, 0, none⟩), .slice qa qn qc] w fun e w' => e = .returned (.tuple #[.int .i64 (posR q rs), .bool (fndR q rs)]) ∧ Below w.heap.size w w' := by
 have hbin := bin_any ao n cap rs qa qn qc q w hn h.os h.q hs hqn hq
 have c0 := h.c0
 generalize posR q rs = pp at *
 generalize fndR q rs = ff at *
 clear h hq
 go_enter Tryz.func32, Tryz.ntmps32
 go_wp2_with fail
 refine hbin.mono ?_
 rintro e w1 ⟨rfl, hb1⟩
 go_wp2
 go_ret2
 exact ⟨rfl, hb1⟩
end Go.Proofs.YtjgckfcocmhnhaaGreatDoor.Sr
