/- What the reference's reading holds: kinds, samples, numbers of bad lines, their errors. -/
import Derived.Test.YtcbjhfnlhpallaaGreatDoorEKd
import Derived.Test.YtcbjhfnlhpallaaGreatDoorEView
namespace Go.Proofs.YtcbjhfnlhpallaaGreatDoor
open Go.RowKit

theorem row_same {w w' : World} {base e size n : Nat} {v : Value} {xs : List Value} (h : w.ownsRow base e size v n xs) (hs : ∀ b, v.ownBlock = some b → w'.heap[b]? = w.heap[b]?) : w'.ownsRow base e size v n xs := by
  refine ⟨h.1, ?_⟩
  rcases h.2 with h0 | ⟨g, cap, cur, rfl, hb, hg, rest⟩
  · exact Or.inl h0
  · exact Or.inr ⟨g, cap, cur, rfl, hb, (hs g rfl).trans hg, rest⟩
theorem Pl.same {w w' : World} {v : Value} {ls : List Pr} (h : Pl w v ls) (hs : ∀ b, v.ownBlock = some b → w'.heap[b]? = w.heap[b]?) : Pl w' v ls := by
  obtain ⟨ao, cap, rfl, h1, h2⟩ := h
  refine ⟨ao, cap, rfl, h1, fun hp => ?_⟩
  obtain ⟨b, off, rfl, hc⟩ := h2 hp
  have hb := hs b rfl
  exact ⟨b, off, rfl, fun j hj => ⟨(World.cell?_of_block (a := ⟨b, off + j * 2, none⟩) hb).trans (hc j hj).1, (World.cell?_of_block (a := ⟨b, off + j * 2 + 1, none⟩) hb).trans (hc j hj).2⟩⟩
theorem OwnX.same {w w' : World} {v : Value} {l : List (Value × Scr)} (h : OwnX w v l) (hs : ∀ b, v.ownBlock = some b → w'.heap[b]? = w.heap[b]?) (hp : ∀ p ∈ l, ∀ b, p.1.ownBlock = some b → w'.heap[b]? = w.heap[b]?) : OwnX w' v l :=
  ⟨row_same h.row hs, fun p hq => (h.lab p hq).same (hp p hq), h.apart⟩

structure Rf (base : Nat) (w : World) (kb : Nat) (nv kv ov uv yv : Value) (ns : List Str) (ks : List Int) (sl : List (Value × Scr)) (k : Str → Int) (out : List Scr) (us ys : List Int) (c : Nat) : Prop where
  kp : Kp w base kb nv kv nv kv ns ks
  nk : ns.length = ks.length
  nc : ns.length ≤ c
  lk : ∀ s, lk ns ks s = k s
  ox : OwnX w ov sl
  ol : sl.map (·.2) = out
  lc : sl.length ≤ c
  xb : ∀ b, ov.ownBlock = some b → base ≤ b
  ou : OwnI w base uv us
  oy : OwnI w base yv ys
  uc : us.length ≤ c
  yc : ys.length ≤ c
  ku : ∀ b, kv.ownBlock = some b → uv.ownBlock ≠ some b ∧ yv.ownBlock ≠ some b
  uy : ∀ b, uv.ownBlock = some b → yv.ownBlock ≠ some b
  pl : ∀ p ∈ sl, ∀ b, p.1.ownBlock = some b → base ≤ b ∧ b < w.heap.size ∧ nv.ownBlock ≠ some b ∧ kv.ownBlock ≠ some b ∧ uv.ownBlock ≠ some b ∧ yv.ownBlock ≠ some b
  bw : base ≤ w.heap.size
section
variable {base kb c : Nat} {w w' : World} {nv kv ov uv yv : Value} {ns : List Str} {ks : List Int} {sl : List (Value × Scr)} {k : Str → Int} {out : List Scr} {us ys : List Int}
theorem Rf.later (h : Rf base w kb nv kv ov uv yv ns ks sl k out us ys c) (hb : Below w.heap.size w w') : Rf base w' kb nv kv ov uv yv ns ks sl k out us ys c :=
  ⟨h.kp.later hb, h.nk, h.nc, h.lk, h.ox.later hb, h.ol, h.lc, h.xb, h.ou.later hb, h.oy.later hb, h.uc, h.yc, h.ku, h.uy, fun p hp b e => ⟨(h.pl p hp b e).1, Nat.lt_of_lt_of_le (h.pl p hp b e).2.1 hb.size, (h.pl p hp b e).2.2⟩, Nat.le_trans h.bw hb.size⟩
theorem Rf.mono {c' : Nat} (h : Rf base w kb nv kv ov uv yv ns ks sl k out us ys c) (hc : c ≤ c') : Rf base w kb nv kv ov uv yv ns ks sl k out us ys c' :=
  ⟨h.kp, h.nk, Nat.le_trans h.nc hc, h.lk, h.ox, h.ol, Nat.le_trans h.lc hc, h.xb, h.ou, h.oy, Nat.le_trans h.uc hc, Nat.le_trans h.yc hc, h.ku, h.uy, h.pl, h.bw⟩
theorem Rf.xne (h : Rf base w kb nv kv ov uv yv ns ks sl k out us ys c) {b : Nat} (e : ov.ownBlock = some b) : nv.ownBlock ≠ some b ∧ kv.ownBlock ≠ some b ∧ uv.ownBlock ≠ some b ∧ yv.ownBlock ≠ some b :=
  ⟨tag_ne h.ox.row h.kp.on (by decide) b e, tag_ne h.ox.row h.kp.ok (by decide) b e, tag_ne h.ox.row h.ou (by decide) b e, tag_ne h.ox.row h.oy (by decide) b e⟩
theorem Rf.nne (h : Rf base w kb nv kv ov uv yv ns ks sl k out us ys c) {b : Nat} (e : nv.ownBlock = some b) : uv.ownBlock ≠ some b ∧ yv.ownBlock ≠ some b :=
  ⟨tag_ne h.kp.on h.ou (by decide) b e, tag_ne h.kp.on h.oy (by decide) b e⟩
/-- A kind told. -/
theorem Rf.told {nv' kv' : Value} {s : Str} {x : Int} (h : Rf base w kb nv kv ov uv yv ns ks sl k out us ys c) (hK : Keep (Far w kb nv kv) w w') (hkp : Kp w' base kb nv' kv' nv' kv' (pN ns s) (pK ns ks s x)) (hn : ∀ b, nv'.ownBlock = some b → nv.ownBlock = some b ∨ w.heap.size ≤ b) (hk : ∀ b, kv'.ownBlock = some b → kv.ownBlock = some b ∨ w.heap.size ≤ b) :
    Rf base w' kb nv' kv' ov uv yv (pN ns s) (pK ns ks s x) sl (upd k s x) out us ys (c + 1) := by
  obtain ⟨l1, l2⟩ := pN_pK h.nk s x
  have hnc := h.nc
  have fx : ∀ b, ov.ownBlock = some b → w'.heap[b]? = w.heap[b]? := fun b e => hK.block b ⟨(h.ox.row.lt b e).2, by have := h.xb b e; have := h.kp.kl; omega, (h.xne e).1, (h.xne e).2.1⟩
  have fu : ∀ b, uv.ownBlock = some b → w'.heap[b]? = w.heap[b]? := fun b e => hK.block b ⟨(World.ownsRow.lt h.ou b e).2, by have := (World.ownsRow.lt h.ou b e).1; have := h.kp.kl; omega, fun e2 => (h.nne e2).1 e, fun e2 => (h.ku b e2).1 e⟩
  have fy : ∀ b, yv.ownBlock = some b → w'.heap[b]? = w.heap[b]? := fun b e => hK.block b ⟨(World.ownsRow.lt h.oy b e).2, by have := (World.ownsRow.lt h.oy b e).1; have := h.kp.kl; omega, fun e2 => (h.nne e2).2 e, fun e2 => (h.ku b e2).2 e⟩
  refine ⟨hkp, l1, by omega, fun t => ?_, h.ox.same fx (fun p hp b e => ?_), h.ol, by have := h.lc; omega, h.xb, row_same h.ou fu, row_same h.oy fy, by have := h.uc; omega, by have := h.yc; omega, fun b e => ?_, h.uy, fun p hp b e => ?_, Nat.le_trans h.bw hK.size⟩
  · rw [lk_put h.nk, h.lk t]; rfl
  · obtain ⟨y1, y2, y3, y4, _⟩ := h.pl p hp b e
    exact hK.block b ⟨y2, by have := h.kp.kl; omega, y3, y4⟩
  · rcases hk b e with h1 | h1
    · exact h.ku b h1
    · exact ⟨fun e2 => by have := (World.ownsRow.lt h.ou b e2).2; omega, fun e2 => by have := (World.ownsRow.lt h.oy b e2).2; omega⟩
  · obtain ⟨y1, y2, y3, y4, y5, y6⟩ := h.pl p hp b e
    refine ⟨y1, Nat.lt_of_lt_of_le y2 hK.size, fun e2 => ?_, fun e2 => ?_, y5, y6⟩
    · rcases hn b e2 with h1 | h1
      · exact y3 h1
      · omega
    · rcases hk b e2 with h1 | h1
      · exact y4 h1
      · omega
/-- A bad line's number. -/
theorem Rf.addU {u' : Value} {x : Int} (h : Rf base w kb nv kv ov uv yv ns ks sl k out us ys c) (ho : w'.ownsRow base 3 1 u' (us.length + 1) (us.map iv ++ [iv x])) (hg : w.grownBy w' uv.ownBlock) (hl : u'.ownBlock = uv.ownBlock ∨ u'.ownBlock = some w.heap.size) :
    Rf base w' kb nv kv ov u' yv ns ks sl k out (us ++ [x]) ys (c + 1) := by
  have hu : ∀ b, u'.ownBlock = some b → uv.ownBlock = some b ∨ b = w.heap.size := fun b e => by
    rcases hl with h1 | h1
    · exact Or.inl (h1 ▸ e)
    · rw [h1] at e; injection e with e; exact Or.inr e.symm
  have huc := h.uc
  refine ⟨h.kp.kept hg (fun e => ?_) (fun b e e2 => (h.nne e).1 e2.symm) (fun b e e2 => (h.ku b e).1 e2.symm), h.nk, by have := h.nc; omega, h.lk, h.ox.kept hg (fun b e e2 => (h.xne e).2.2.1 e2.symm) (fun p hp b e e2 => (h.pl p hp b e).2.2.2.2.1 e2.symm), h.ol, by have := h.lc; omega, h.xb, OwnI.snoc ho, h.oy.kept hg (fun b e e2 => h.uy b e2.symm e), by simp; omega, by have := h.yc; omega, fun b e => ⟨fun e2 => ?_, (h.ku b e).2⟩, fun b e e2 => ?_, fun p hp b e => ?_, Nat.le_trans h.bw hg.size⟩
  · have := (World.ownsRow.lt h.ou _ e.symm).1; have := h.kp.kl; omega
  · rcases hu b e2 with h1 | h1
    · exact (h.ku b e).1 h1
    · have := (World.ownsRow.lt h.kp.ok b e).2; omega
  · rcases hu b e with h1 | h1
    · exact h.uy b h1 e2
    · have := (World.ownsRow.lt h.oy b e2).2; omega
  · obtain ⟨y1, y2, y3, y4, y5, y6⟩ := h.pl p hp b e
    refine ⟨y1, Nat.lt_of_lt_of_le y2 hg.size, y3, y4, fun e2 => ?_, y6⟩
    rcases hu b e2 with h1 | h1
    · exact y5 h1
    · omega
/-- A bad line's error. -/
theorem Rf.addY {u' : Value} {x : Int} (h : Rf base w kb nv kv ov uv yv ns ks sl k out us ys c) (hyc : ys.length + 1 ≤ c) (ho : w'.ownsRow base 3 1 u' (ys.length + 1) (ys.map iv ++ [iv x])) (hg : w.grownBy w' yv.ownBlock) (hl : u'.ownBlock = yv.ownBlock ∨ u'.ownBlock = some w.heap.size) :
    Rf base w' kb nv kv ov uv u' ns ks sl k out us (ys ++ [x]) c := by
  have hu : ∀ b, u'.ownBlock = some b → yv.ownBlock = some b ∨ b = w.heap.size := fun b e => by
    rcases hl with h1 | h1
    · exact Or.inl (h1 ▸ e)
    · rw [h1] at e; injection e with e; exact Or.inr e.symm
  refine ⟨h.kp.kept hg (fun e => ?_) (fun b e e2 => (h.nne e).2 e2.symm) (fun b e e2 => (h.ku b e).2 e2.symm), h.nk, h.nc, h.lk, h.ox.kept hg (fun b e e2 => (h.xne e).2.2.2 e2.symm) (fun p hp b e e2 => (h.pl p hp b e).2.2.2.2.2 e2.symm), h.ol, h.lc, h.xb, h.ou.kept hg (fun b e e2 => h.uy b e e2.symm), OwnI.snoc ho, h.uc, by simp; omega, fun b e => ⟨(h.ku b e).1, fun e2 => ?_⟩, fun b e e2 => ?_, fun p hp b e => ?_, Nat.le_trans h.bw hg.size⟩
  · have := (World.ownsRow.lt h.oy _ e.symm).1; have := h.kp.kl; omega
  · rcases hu b e2 with h1 | h1
    · exact (h.ku b e).2 h1
    · have := (World.ownsRow.lt h.kp.ok b e).2; omega
  · rcases hu b e2 with h1 | h1
    · exact h.uy b e h1
    · have := (World.ownsRow.lt h.ou b e).2; omega
  · obtain ⟨y1, y2, y3, y4, y5, y6⟩ := h.pl p hp b e
    refine ⟨y1, Nat.lt_of_lt_of_le y2 hg.size, y3, y4, y5, fun e2 => ?_⟩
    rcases hu b e2 with h1 | h1
    · exact y6 h1
    · omega
/-- A sample. -/
theorem Rf.addX {v' lab : Value} {x : Scr} (h : Rf base w kb nv kv ov uv yv ns ks sl k out us ys c) (ho : w'.ownsRow 0 34 6 v' (sl.length + 1) (cellsX sl ++ six (lab, x))) (hg : w.grownBy w' ov.ownBlock) (hl : v'.ownBlock = ov.ownBlock ∨ v'.ownBlock = some w.heap.size)
    (hp : Pl w lab x.ls) (hlb : ∀ b, lab.ownBlock = some b → base ≤ b ∧ b < w.heap.size ∧ nv.ownBlock ≠ some b ∧ kv.ownBlock ≠ some b ∧ uv.ownBlock ≠ some b ∧ yv.ownBlock ≠ some b ∧ ov.ownBlock ≠ some b) :
    Rf base w' kb nv kv v' uv yv ns ks (sl ++ [(lab, x)]) k (out ++ [x]) us ys (c + 1) := by
  have hv : ∀ b, v'.ownBlock = some b → ov.ownBlock = some b ∨ b = w.heap.size := fun b e => by
    rcases hl with h1 | h1
    · exact Or.inl (h1 ▸ e)
    · rw [h1] at e; injection e with e; exact Or.inr e.symm
  have hall : ∀ q ∈ sl ++ [(lab, x)], Pl w q.1 q.2.ls ∧ ∀ b, q.1.ownBlock = some b → base ≤ b ∧ b < w.heap.size ∧ nv.ownBlock ≠ some b ∧ kv.ownBlock ≠ some b ∧ uv.ownBlock ≠ some b ∧ yv.ownBlock ≠ some b ∧ ov.ownBlock ≠ some b := by
    intro q hq
    rcases List.mem_append.1 hq with hq | hq
    · refine ⟨h.ox.lab q hq, fun b e => ?_⟩
      obtain ⟨y1, y2, y3, y4, y5, y6⟩ := h.pl q hq b e
      exact ⟨y1, y2, y3, y4, y5, y6, h.ox.apart q hq b e⟩
    · simp at hq
      subst hq
      exact ⟨hp, hlb⟩
  have hlc := h.lc
  refine ⟨h.kp.kept hg (fun e => ?_) (fun b e e2 => (h.xne e2.symm).1 e) (fun b e e2 => (h.xne e2.symm).2.1 e), h.nk, by have := h.nc; omega, h.lk, ⟨?_, fun q hq => (hall q hq).1.kept hg (fun b e e2 => ((hall q hq).2 b e).2.2.2.2.2.2 e2.symm), fun q hq b e e2 => ?_⟩, by rw [List.map_append, h.ol]; rfl, by simp; omega, fun b e => ?_, h.ou.kept hg (fun b e e2 => (h.xne e2.symm).2.2.1 e), h.oy.kept hg (fun b e e2 => (h.xne e2.symm).2.2.2 e), by have := h.uc; omega, by have := h.yc; omega, h.ku, h.uy, fun q hq b e => ?_, Nat.le_trans h.bw hg.size⟩
  · have := h.xb _ e.symm; have := h.kp.kl; omega
  · rw [cellsX_append, List.length_append]
    simpa [cellsX] using ho
  · obtain ⟨_, y2, _, _, _, _, y7⟩ := (hall q hq).2 b e
    rcases hv b e2 with h1 | h1
    · exact y7 h1
    · omega
  · rcases hv b e with h1 | h1
    · exact h.xb b h1
    · have := h.bw; omega
  · obtain ⟨y1, y2, y3, y4, y5, y6, _⟩ := (hall q hq).2 b e
    exact ⟨y1, Nat.lt_of_lt_of_le y2 hg.size, y3, y4, y5, y6⟩
end
theorem OwnI.made (w : World) (base : Nat) (hb : base ≤ w.heap.size) (x : Int) : OwnI (w.alloc (.cells #[iv x] 3)) base (.slice (some ⟨w.heap.size, 0, Option.none⟩) 1 1) [x] :=
  ⟨by simp, Or.inr ⟨w.heap.size, 1, #[iv x], rfl, hb, heap_alloc_new w _, Nat.le_refl _, by unfold maxLen; omega, by simp, by simp⟩⟩
end Go.Proofs.YtcbjhfnlhpallaaGreatDoor
