/- What a reading holds in memory: kinds by names, samples, bad lines; what stays while it grows. -/
import Derived.Test.YtcbjhfnlhpallaaGreatDoorBaseA
import Derived.Test.YtcbjhfnlhpallaaGreatDoorELine
import Derived.Maps.OwnOps
import Derived.Maps.Views
import Derived.Maps.AppendAt
namespace Go.Proofs.YtcbjhfnlhpallaaGreatDoor
open Go.RowKit Go.Maps Go.WideMaps

/-! ### Worlds that are alike where nobody may write -/
structure Keep (G : Nat → Prop) (w w' : World) : Prop where
  os : w'.os = w.os
  tape : w'.tape = w.tape
  output : w'.output = w.output
  size : w.heap.size ≤ w'.heap.size
  block : ∀ b, G b → w'.heap[b]? = w.heap[b]?
theorem Keep.refl (G : Nat → Prop) (w : World) : Keep G w w := ⟨rfl, rfl, rfl, Nat.le_refl _, fun _ _ => rfl⟩
theorem Keep.trans {G : Nat → Prop} {a b c : World} (h : Keep G a b) (k : Keep G b c) : Keep G a c := ⟨k.os.trans h.os, k.tape.trans h.tape, k.output.trans h.output, Nat.le_trans h.size k.size, fun b hb => (k.block b hb).trans (h.block b hb)⟩
theorem Keep.of {G : Nat → Prop} {w w' : World} (h : Below w.heap.size w w') (hG : ∀ b, G b → b < w.heap.size) : Keep G w w' := ⟨h.os, h.tape, h.output, h.size, fun b hb => h.block b (hG b hb)⟩
theorem Keep.grown {G : Nat → Prop} {w w' : World} {row : Option Nat} (h : w.grownBy w' row) (hG : ∀ b, G b → b < w.heap.size) (hr : ∀ b, row = some b → ¬ G b) : Keep G w w' := ⟨h.os, h.tape, h.output, h.size, fun b hb => h.block b (hG b hb) (fun e => hr b e.symm hb)⟩
theorem Keep.below {B : Nat} {w w' : World} (h : Keep (fun b => b < B) w w') : Below B w w' := ⟨h.os, h.tape, h.output, h.size, fun k hk => h.block k hk⟩
theorem Keep.mono {G F : Nat → Prop} {w w' : World} (h : Keep G w w') (hF : ∀ b, F b → G b) : Keep F w w' := ⟨h.os, h.tape, h.output, h.size, fun b hb => h.block b (hF b hb)⟩
theorem grown_set (W : World) (b o : Nat) (v : Value) : W.grownBy (W.setCell ⟨b, o, none⟩ v) (some b) := ⟨rfl, rfl, rfl, by simp [World.setCell], fun k _ hne => Below.heap_setCell _ _ _ _ (fun e => hne (by rw [e]))⟩
theorem grown_below {w w' : World} (h : Below w.heap.size w w') (row : Option Nat) : w.grownBy w' row := ⟨h.os, h.tape, h.output, h.size, fun k hk _ => h.block k hk⟩
theorem grown_cell {w w' : World} {row : Option Nat} (hg : w.grownBy w' row) {b o : Nat} {v : Value} (h : w.cell? ⟨b, o, none⟩ = some v) (hne : some b ≠ row) : w'.cell? ⟨b, o, none⟩ = some v := hg.cell h hne
theorem grown_frozen {w w' : World} {row : Option Nat} (hg : w.grownBy w' row) {b o : Nat} (hb : b < w.heap.size) (h : w.frozen? ⟨b, o, none⟩ = false) (hne : some b ≠ row) : w'.frozen? ⟨b, o, none⟩ = false :=
  (World.frozen?_of_block (a := ⟨b, o, none⟩) (hg.block b hb hne)).trans h
theorem Ps.kept {w w' : World} {row : Option Nat} {ao : Option Addr} {n : Nat} {l : List Pr} (h : Ps w ao n l) (hg : w.grownBy w' row) (hne : ∀ a, ao = some a → some a.block ≠ row) : Ps w' ao n l := by
  obtain ⟨h1, h4⟩ := h
  refine ⟨h1, fun hp => ?_⟩
  obtain ⟨b, off, e, hc⟩ := h4 hp
  exact ⟨b, off, e, fun j hj => ⟨grown_cell hg (hc j hj).1 (hne _ e), grown_cell hg (hc j hj).2 (hne _ e)⟩⟩

/-! ### Kinds by names -/
theorem law9 : Keyed Tryz.prog 9 := string_keyed Tryz.underlying9
theorem zero3 (w : World) : (zeroValue 3).run Tryz.prog w = .ok (.int .i64 0) w := by kernel_rfl
def Km (w : World) (b n : Nat) (k : Str → Int) : Prop := ∃ D : DataW Unit, w.ownsMap Tryz.prog 9 (plainElem Tryz.prog 3) b n D ∧ IsMap D ∧ ∀ s : Str, D.atKey (.string s) (.lit (.int .i64 0)) = .lit (.int .i64 (k s))
theorem Km.made (w : World) : Km (w.alloc (.map #[] 0)) w.heap.size 0 (fun _ => 0) := ⟨.map [], World.ownsMap_made _ _ _ _, isMap_empty, fun _ => rfl⟩
theorem Km.kept {w w' : World} {row : Option Nat} {b n : Nat} {k : Str → Int} (h : Km w b n k) (hg : w.grownBy w' row) (hne : some b ≠ row) : Km w' b n k := by
  obtain ⟨D, h1, h2, h3⟩ := h
  exact ⟨D, h1.kept hg hne, h2, h3⟩
theorem Km.lt {w : World} {b n : Nat} {k : Str → Int} (h : Km w b n k) : b < w.heap.size := by
  obtain ⟨D, h1, _⟩ := h
  exact h1.lt
theorem key_tx (s : Str) (h : s.length ≤ 1000000) : keyOf Tryz.prog 9 (tx s) = some (.string s) := keyOf_string_mk Tryz.underlying9 (by rw [ba_size]; unfold maxLen; omega)
theorem Km.put {w' : World} {b n : Nat} {k : Str → Int} {D : DataW Unit} {s : Str} {x : Int} (h2 : IsMap D) (h3 : ∀ s : Str, D.atKey (.string s) (.lit (.int .i64 0)) = .lit (.int .i64 (k s))) (ho : w'.ownsMap Tryz.prog 9 (plainElem Tryz.prog 3) b n (D.put (.string s) (.lit (.int .i64 x)))) : Km w' b n (upd k s x) := by
  refine ⟨_, ho, h2.put _ _, fun t => ?_⟩
  unfold upd
  by_cases e : t = s
  · subst e
    rw [if_pos rfl, atKey_put_same h2 (by simp [WideAt.IsKeyLit])]
  · rw [if_neg e, atKey_put_other (fun e' => e (by injection e'))]
    exact h3 t

/-! ### Samples, bad lines -/
def six (p : Value × Scr) : List Value := [p.1, .bool p.2.ov, .int .i64 p.2.n, .int .i64 p.2.t, .bool p.2.has, .int .i64 p.2.kind]
def cellsX (l : List (Value × Scr)) : List Value := l.flatMap six
theorem cellsX_append (l m : List (Value × Scr)) : cellsX (l ++ m) = cellsX l ++ cellsX m := by simp [cellsX]
theorem cellsX_length (l : List (Value × Scr)) : (cellsX l).length = l.length * 6 := by
  induction l with
  | nil => rfl
  | cons p l ih =>
    have e : cellsX (p :: l) = six p ++ cellsX l := rfl
    rw [e, List.length_append, ih, List.length_cons]
    show 6 + _ = _
    omega
def Pl (w : World) (v : Value) (ls : List Pr) : Prop := ∃ ao cap, v = .slice ao ls.length cap ∧ Ps w ao ls.length ls
theorem Pl.kept {w w' : World} {row : Option Nat} {v : Value} {ls : List Pr} (h : Pl w v ls) (hg : w.grownBy w' row) (hne : ∀ b, v.ownBlock = some b → some b ≠ row) : Pl w' v ls := by
  obtain ⟨ao, cap, rfl, hp⟩ := h
  refine ⟨ao, cap, rfl, hp.kept hg fun a e => ?_⟩
  subst e
  exact hne a.block rfl
theorem Pl.one {w : World} {v : Value} {ls : List Pr} (h : Pl w v ls) : v.oneCell' = true := by
  obtain ⟨ao, cap, rfl, _⟩ := h
  rfl
structure OwnX (w : World) (v : Value) (l : List (Value × Scr)) : Prop where
  row : w.ownsRow 0 34 6 v l.length (cellsX l)
  lab : ∀ p ∈ l, Pl w p.1 p.2.ls
  apart : ∀ p ∈ l, ∀ b, p.1.ownBlock = some b → v.ownBlock ≠ some b
def two (p : Int × Int) : List Value := [.int .i64 p.1, .int .i64 p.2]
def cellsB (l : List (Int × Int)) : List Value := l.flatMap two
theorem cellsB_append (l m : List (Int × Int)) : cellsB (l ++ m) = cellsB l ++ cellsB m := by simp [cellsB]
theorem cellsB_length (l : List (Int × Int)) : (cellsB l).length = l.length * 2 := by
  induction l with
  | nil => rfl
  | cons p l ih =>
    have e : cellsB (p :: l) = two p ++ cellsB l := rfl
    rw [e, List.length_append, ih, List.length_cons]
    show 2 + _ = _
    omega
def OwnBd (w : World) (v : Value) (l : List (Int × Int)) : Prop := w.ownsRow 0 43 2 v l.length (cellsB l)
theorem info34 : (Tryz.prog.info? 34).map (fun i => (i.zero, i.size, i.bytes)) = some (some (.agg #[.slice none 0 0, .bool false, .int .i64 0, .int .i64 0, .bool false, .int .i64 0]), 6, 64) := by kernel_rfl
theorem info_parts34 : ∃ i, Tryz.prog.info? 34 = some i ∧ i.zero = some (.agg #[.slice none 0 0, .bool false, .int .i64 0, .int .i64 0, .bool false, .int .i64 0]) ∧ i.size = 6 ∧ i.bytes = 64 := by
  have h := info34
  cases hi : Tryz.prog.info? 34 with
  | none => rw [hi] at h; cases h
  | some i =>
    rw [hi] at h
    simp only [Option.map_some, Option.some.injEq, Prod.mk.injEq] at h
    exact ⟨i, rfl, h.1, h.2.1, h.2.2⟩
theorem zero34 : (Value.agg #[.slice none 0 0, .bool false, .int .i64 0, .int .i64 0, .bool false, .int .i64 0]).cells.size = 6 := by kernel_rfl
theorem info43 : (Tryz.prog.info? 43).map (fun i => (i.zero, i.size, i.bytes)) = some (some (.agg #[.int .i64 0, .int .i64 0]), 2, 16) := by kernel_rfl
theorem info_parts43 : ∃ i, Tryz.prog.info? 43 = some i ∧ i.zero = some (.agg #[.int .i64 0, .int .i64 0]) ∧ i.size = 2 ∧ i.bytes = 16 := by
  have h := info43
  cases hi : Tryz.prog.info? 43 with
  | none => rw [hi] at h; cases h
  | some i =>
    rw [hi] at h
    simp only [Option.map_some, Option.some.injEq, Prod.mk.injEq] at h
    exact ⟨i, rfl, h.1, h.2.1, h.2.2⟩
theorem zero43 : (Value.agg #[.int .i64 0, .int .i64 0]).cells.size = 2 := by kernel_rfl
theorem OwnX.kept {w w' : World} {row : Option Nat} {v : Value} {l : List (Value × Scr)} (h : OwnX w v l) (hg : w.grownBy w' row) (hne : ∀ b, v.ownBlock = some b → some b ≠ row) (hnl : ∀ p ∈ l, ∀ b, p.1.ownBlock = some b → some b ≠ row) : OwnX w' v l := by
  refine ⟨h.row.kept hg ?_, fun p hp => (h.lab p hp).kept hg (hnl p hp), h.apart⟩
  cases e : v.ownBlock with
  | none => exact Or.inl rfl
  | some b => exact Or.inr (hne b e)
theorem OwnBd.kept {w w' : World} {row : Option Nat} {v : Value} {l : List (Int × Int)} (h : OwnBd w v l) (hg : w.grownBy w' row) (hne : ∀ b, v.ownBlock = some b → some b ≠ row) : OwnBd w' v l := by
  refine World.ownsRow.kept h hg ?_
  cases e : v.ownBlock with
  | none => exact Or.inl rfl
  | some b => exact Or.inr (hne b e)

/-! ### A reading -/
structure Rd (G : Nat → Prop) (w : World) (rb mb n : Nat) (sv bv : Value) (l : List (Value × Scr)) (st : St) (c : Nat) : Prop where
  c0 : w.cell? ⟨rb, 0, none⟩ = some (.map (some mb))
  c1 : w.cell? ⟨rb, 1, none⟩ = some sv
  c2 : w.cell? ⟨rb, 2, none⟩ = some bv
  f1 : w.frozen? ⟨rb, 1, none⟩ = false
  f2 : w.frozen? ⟨rb, 2, none⟩ = false
  km : Km w mb n st.k
  nc : n ≤ c
  ox : OwnX w sv l
  ol : l.map (·.2) = st.out
  lc : l.length ≤ c
  ob : OwnBd w bv st.bad
  bc : st.bad.length ≤ c
  gr : ¬ G rb
  gm : ¬ G mb
  rm : rb ≠ mb
  gs : ∀ b, sv.ownBlock = some b → ¬ G b ∧ b ≠ rb ∧ b ≠ mb
  gb : ∀ b, bv.ownBlock = some b → ¬ G b ∧ b ≠ rb ∧ b ≠ mb ∧ sv.ownBlock ≠ some b
  pl : ∀ p ∈ l, ∀ b, p.1.ownBlock = some b → b < w.heap.size ∧ b ≠ rb ∧ b ≠ mb ∧ bv.ownBlock ≠ some b
section
variable {G : Nat → Prop} {w : World} {rb mb n : Nat} {sv bv : Value} {l : List (Value × Scr)} {st : St} {c : Nat}
theorem Rd.rlt (h : Rd G w rb mb n sv bv l st c) : rb < w.heap.size := World.block_lt_of_cell? _ _ h.c0
theorem Rd.slt (h : Rd G w rb mb n sv bv l st c) {b : Nat} (e : sv.ownBlock = some b) : b < w.heap.size := (h.ox.row.lt b e).2
theorem Rd.blt (h : Rd G w rb mb n sv bv l st c) {b : Nat} (e : bv.ownBlock = some b) : b < w.heap.size := (World.ownsRow.lt h.ob b e).2
theorem Rd.later {w' : World} (h : Rd G w rb mb n sv bv l st c) (hb : Below w.heap.size w w') : Rd G w' rb mb n sv bv l st c := by
  have hg := grown_below hb none
  exact ⟨grown_cell hg h.c0 (by simp), grown_cell hg h.c1 (by simp), grown_cell hg h.c2 (by simp), grown_frozen hg h.rlt h.f1 (by simp), grown_frozen hg h.rlt h.f2 (by simp), h.km.kept hg (by simp), h.nc, h.ox.kept hg (by simp) (by simp), h.ol, h.lc, h.ob.kept hg (by simp), h.bc, h.gr, h.gm, h.rm, h.gs, h.gb, fun p hp b e => ⟨Nat.lt_of_lt_of_le (h.pl p hp b e).1 hb.size, (h.pl p hp b e).2⟩⟩
theorem Rd.mono {c' : Nat} (h : Rd G w rb mb n sv bv l st c) (hc : c ≤ c') : Rd G w rb mb n sv bv l st c' := ⟨h.c0, h.c1, h.c2, h.f1, h.f2, h.km, Nat.le_trans h.nc hc, h.ox, h.ol, Nat.le_trans h.lc hc, h.ob, Nat.le_trans h.bc hc, h.gr, h.gm, h.rm, h.gs, h.gb, h.pl⟩
/-- A block that is new lies apart. -/
theorem Rd.fresh (h : Rd G w rb mb n sv bv l st c) {b : Nat} (hb : w.heap.size ≤ b) : b ≠ rb ∧ b ≠ mb ∧ sv.ownBlock ≠ some b ∧ bv.ownBlock ≠ some b := by
  have h1 := h.rlt
  have h2 := h.km.lt
  exact ⟨by omega, by omega, fun e => by have := h.slt e; omega, fun e => by have := h.blt e; omega⟩
theorem Rd.fits (_ : Rd G w rb mb n sv bv l st c) (hG : ∀ b, G b → b < w.heap.size) : ¬ G w.heap.size := fun hg => by have := hG _ hg; omega
/-- A bad line more. -/
theorem Rd.refused {w2 : World} {bv' : Value} {p : Int × Int} (h : Rd G w rb mb n sv bv l st c) (hG : ∀ b, G b → b < w.heap.size) (ho : w2.ownsRow 0 43 2 bv' (st.bad.length + 1) (cellsB st.bad ++ two p)) (hg : w.grownBy w2 bv.ownBlock) (hloc : bv'.ownBlock = bv.ownBlock ∨ bv'.ownBlock = some w.heap.size) :
    Rd G (w2.setCell ⟨rb, 2, none⟩ bv') rb mb n sv bv' l ⟨st.k, st.out, st.bad ++ [p]⟩ (c + 1) ∧ Keep G w (w2.setCell ⟨rb, 2, none⟩ bv') := by
  have hgs := grown_set w2 rb 2 bv'
  have hb' : ∀ b, bv'.ownBlock = some b → bv.ownBlock = some b ∨ b = w.heap.size := fun b e => by
    rcases hloc with h1 | h1
    · exact Or.inl (h1 ▸ e)
    · rw [h1] at e; injection e with e; exact Or.inr e.symm
  have hrow : some rb ≠ bv.ownBlock := fun e => (h.gb rb e.symm).2.1 rfl
  have hmow : some mb ≠ bv.ownBlock := fun e => (h.gb mb e.symm).2.2.1 rfl
  have hr2 : rb < w2.heap.size := Nat.lt_of_lt_of_le h.rlt hg.size
  have k0 := grown_cell hg h.c0 hrow
  have k1 := grown_cell hg h.c1 hrow
  have k2 := grown_cell hg h.c2 hrow
  have g1 := grown_frozen hg h.rlt h.f1 hrow
  have g2 := grown_frozen hg h.rlt h.f2 hrow
  have kx := h.ox.kept hg (fun b e e2 => (h.gb b e2.symm).2.2.2 e) (fun q hq b e e2 => (h.pl q hq b e).2.2.2 e2.symm)
  have ho' : OwnBd w2 bv' (st.bad ++ [p]) := by
    unfold OwnBd
    rw [cellsB_append, List.length_append]
    simpa [cellsB] using ho
  refine ⟨⟨?_, ?_, ?_, by simpa using g1, by simpa using g2, (h.km.kept hg hmow).kept hgs (fun e => h.rm (by injection e with e; exact e.symm)), by have := h.nc; omega, kx.kept hgs (fun b e e2 => (h.gs b e).2.1 (by injection e2)) (fun q hq b e e2 => (h.pl q hq b e).2.1 (by injection e2)), h.ol, by have := h.lc; omega, ho'.kept hgs (fun b e e2 => ?_), by have := h.bc; simp; omega, h.gr, h.gm, h.rm, h.gs, fun b e => ?_, fun q hq b e => ?_⟩, ?_⟩
  · rw [World.cell?_setCell_other _ _ _ _ (by intro e; cases e)]; exact k0
  · rw [World.cell?_setCell_other _ _ _ _ (by intro e; cases e)]; exact k1
  · exact World.cell?_setCell_same' _ _ _ (by rw [k2]; rfl)
  · injection e2 with e2
    rcases hb' b e with h1 | h1
    · exact (h.gb b h1).2.1 e2
    · have := h.rlt; omega
  · rcases hb' b e with h1 | h1
    · exact h.gb b h1
    · subst h1
      obtain ⟨x1, x2, x3, x4⟩ := h.fresh (Nat.le_refl _)
      exact ⟨h.fits hG, x1, x2, x3⟩
  · obtain ⟨y1, y2, y3, y4⟩ := h.pl q hq b e
    refine ⟨Nat.lt_of_lt_of_le y1 (Nat.le_trans hg.size hgs.size), y2, y3, fun e2 => ?_⟩
    rcases hb' b e2 with h1 | h1
    · exact y4 h1
    · omega
  · exact (Keep.grown hg hG (fun b e => (h.gb b e).1)).trans (Keep.grown hgs (fun b hb => Nat.lt_of_lt_of_le (hG b hb) hg.size) (fun b e => by injection e with e; rw [← e]; exact h.gr))
/-- A sample more. -/
theorem Rd.sampled {w2 : World} {sv' lab : Value} {x : Scr} (h : Rd G w rb mb n sv bv l st c) (hG : ∀ b, G b → b < w.heap.size) (ho : w2.ownsRow 0 34 6 sv' (l.length + 1) (cellsX l ++ six (lab, x))) (hg : w.grownBy w2 sv.ownBlock) (hloc : sv'.ownBlock = sv.ownBlock ∨ sv'.ownBlock = some w.heap.size)
    (hl : Pl w lab x.ls) (hlb : ∀ b, lab.ownBlock = some b → b < w.heap.size ∧ b ≠ rb ∧ b ≠ mb ∧ sv.ownBlock ≠ some b ∧ bv.ownBlock ≠ some b) :
    Rd G (w2.setCell ⟨rb, 1, none⟩ sv') rb mb n sv' bv (l ++ [(lab, x)]) ⟨st.k, st.out ++ [x], st.bad⟩ (c + 1) ∧ Keep G w (w2.setCell ⟨rb, 1, none⟩ sv') := by
  have hgs := grown_set w2 rb 1 sv'
  have hb' : ∀ b, sv'.ownBlock = some b → sv.ownBlock = some b ∨ b = w.heap.size := fun b e => by
    rcases hloc with h1 | h1
    · exact Or.inl (h1 ▸ e)
    · rw [h1] at e; injection e with e; exact Or.inr e.symm
  have hrow : some rb ≠ sv.ownBlock := fun e => (h.gs rb e.symm).2.1 rfl
  have hmow : some mb ≠ sv.ownBlock := fun e => (h.gs mb e.symm).2.2 rfl
  have k0 := grown_cell hg h.c0 hrow
  have k1 := grown_cell hg h.c1 hrow
  have k2 := grown_cell hg h.c2 hrow
  have g1 := grown_frozen hg h.rlt h.f1 hrow
  have g2 := grown_frozen hg h.rlt h.f2 hrow
  have hsz : w.heap.size ≤ (w2.setCell ⟨rb, 1, none⟩ sv').heap.size := Nat.le_trans hg.size hgs.size
  have hpl : ∀ q ∈ l ++ [(lab, x)], (Pl w q.1 q.2.ls) ∧ ∀ b, q.1.ownBlock = some b → b < w.heap.size ∧ b ≠ rb ∧ b ≠ mb ∧ sv.ownBlock ≠ some b ∧ bv.ownBlock ≠ some b := by
    intro q hq
    rcases List.mem_append.1 hq with hq | hq
    · refine ⟨h.ox.lab q hq, fun b e => ?_⟩
      obtain ⟨y1, y2, y3, y4⟩ := h.pl q hq b e
      exact ⟨y1, y2, y3, h.ox.apart q hq b e, y4⟩
    · simp at hq
      subst hq
      exact ⟨hl, hlb⟩
  have hap : ∀ q ∈ l ++ [(lab, x)], ∀ b, q.1.ownBlock = some b → sv'.ownBlock ≠ some b := fun q hq b e e2 => by
    obtain ⟨y1, y2, y3, y4, y5⟩ := (hpl q hq).2 b e
    rcases hb' b e2 with h1 | h1
    · exact y4 h1
    · omega
  have ho' : OwnX (w2.setCell ⟨rb, 1, none⟩ sv') sv' (l ++ [(lab, x)]) := by
    refine ⟨World.ownsRow.kept (w := w2) (by
      rw [cellsX_append, List.length_append]
      simpa [cellsX] using ho) hgs ?_, fun q hq => ?_, hap⟩
    · cases e : sv'.ownBlock with
      | none => exact Or.inl rfl
      | some b =>
        refine Or.inr (fun e2 => ?_)
        injection e2 with e2
        rcases hb' b e with h1 | h1
        · exact (h.gs b h1).2.1 e2
        · have := h.rlt; omega
    · obtain ⟨z1, z2⟩ := hpl q hq
      exact (z1.kept hg (fun b e e2 => (z2 b e).2.2.2.1 e2.symm)).kept hgs (fun b e e2 => (z2 b e).2.1 (by injection e2))
  refine ⟨⟨?_, ?_, ?_, by simpa using g1, by simpa using g2, (h.km.kept hg hmow).kept hgs (fun e => h.rm (by injection e with e; exact e.symm)), by have := h.nc; omega, ho', by rw [List.map_append, h.ol]; rfl, by have := h.lc; simp; omega, (h.ob.kept hg (fun b e e2 => (h.gb b e).2.2.2 e2.symm)).kept hgs (fun b e e2 => (h.gb b e).2.1 (by injection e2)), by have := h.bc; show st.bad.length ≤ c + 1; omega, h.gr, h.gm, h.rm, fun b e => ?_, fun b e => ?_, fun q hq b e => ?_⟩, ?_⟩
  · rw [World.cell?_setCell_other _ _ _ _ (by intro e; cases e)]; exact k0
  · exact World.cell?_setCell_same' _ _ _ (by rw [k1]; rfl)
  · rw [World.cell?_setCell_other _ _ _ _ (by intro e; cases e)]; exact k2
  · rcases hb' b e with h1 | h1
    · exact h.gs b h1
    · subst h1
      obtain ⟨x1, x2, x3, x4⟩ := h.fresh (Nat.le_refl _)
      exact ⟨h.fits hG, x1, x2⟩
  · obtain ⟨y1, y2, y3, y4⟩ := h.gb b e
    refine ⟨y1, y2, y3, fun e2 => ?_⟩
    rcases hb' b e2 with h1 | h1
    · exact y4 h1
    · have := h.blt e; omega
  · obtain ⟨y1, y2, y3, y4, y5⟩ := (hpl q hq).2 b e
    exact ⟨Nat.lt_of_lt_of_le y1 hsz, y2, y3, y5⟩
  · exact (Keep.grown hg hG (fun b e => (h.gs b e).1)).trans (Keep.grown hgs (fun b hb => Nat.lt_of_lt_of_le (hG b hb) hg.size) (fun b e => by injection e with e; rw [← e]; exact h.gr))
/-- A kind that was told. -/
theorem Rd.told {w2 : World} {k' : Str → Int} (h : Rd G w rb mb n sv bv l st c) (hG : ∀ b, G b → b < w.heap.size) (hk : Km w2 mb (n + 1) k') (hg : w.grownBy w2 (some mb)) :
    Rd G w2 rb mb (n + 1) sv bv l ⟨k', st.out, st.bad⟩ (c + 1) ∧ Keep G w w2 := by
  have hr : some rb ≠ some mb := fun e => h.rm (by injection e)
  refine ⟨⟨grown_cell hg h.c0 hr, grown_cell hg h.c1 hr, grown_cell hg h.c2 hr, grown_frozen hg h.rlt h.f1 hr, grown_frozen hg h.rlt h.f2 hr, hk, by have := h.nc; omega, h.ox.kept hg (fun b e e2 => (h.gs b e).2.2 (by injection e2)) (fun q hq b e e2 => (h.pl q hq b e).2.2.1 (by injection e2)), h.ol, by have := h.lc; omega, h.ob.kept hg (fun b e e2 => (h.gb b e).2.2.1 (by injection e2)), by have := h.bc; show st.bad.length ≤ c + 1; omega, h.gr, h.gm, h.rm, h.gs, h.gb, fun q hq b e => ⟨Nat.lt_of_lt_of_le (h.pl q hq b e).1 hg.size, (h.pl q hq b e).2⟩⟩, Keep.grown hg hG (fun b e => by injection e with e; rw [← e]; exact h.gm)⟩
end
end Go.Proofs.YtcbjhfnlhpallaaGreatDoor
