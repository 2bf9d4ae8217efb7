/- The law's own model: its samples in memory, and what it knows of them. -/
import Derived.Test.YthcakiibkocheaaCKnown
import Derived.Test.YthcakiibkocheaaCRRes
import Derived.ArgAppend
namespace Go.Proofs.Ythcakiibkocheaa
open Go.RowKit

/-- The model's samples: a slice that fits, in no block of the model's own, nor the window's. -/
structure Ml (w : World) (mb b : Nat) (ao : Option Addr) (n cap : Nat) (l : List Smp) : Prop where
  s : Ms w ao n l
  le : n ≤ cap
  no : ao = none → n = 0 ∧ cap = 0
  ne : ∀ a, ao = some a → a.block ≠ mb ∧ a.block ≠ b ∧ a.spot = none
theorem Ml.kept {w w' : World} {mb b : Nat} {ao : Option Addr} {n cap : Nat} {l : List Smp} (h : Ml w mb b ao n cap l) {row : Option Nat} (hg : w.grownBy w' row) (hr : row = none ∨ row = some mb ∨ row = some b) : Ml w' mb b ao n cap l :=
  ⟨h.s.kept hg (fun a e _ => by
    have := h.ne a e
    rcases hr with rfl | rfl | rfl
    · simp
    · intro e2; injection e2 with e2; exact this.1 e2
    · intro e2; injection e2 with e2; exact this.2.1 e2), h.le, h.no, h.ne⟩
theorem Ml.later {w w' : World} {mb b : Nat} {ao : Option Addr} {n cap : Nat} {l : List Smp} (h : Ml w mb b ao n cap l) (hb : Below w.heap.size w w') : Ml w' mb b ao n cap l := h.kept (grown_below hb none) (Or.inl rfl)
/-- The first one off. -/
theorem Ml.tail {w : World} {mb b vb off n cap : Nat} {s : Smp} {r : List Smp} (h : Ml w mb b (some ⟨vb, off, none⟩) n cap (s :: r)) (ao : Option Addr) (hao : ao = some ⟨vb, off + 3, none⟩ ∨ (n = 1 ∧ ao = some ⟨vb, off, none⟩)) : Ml w mb b ao (n - 1) (cap - 1) r := by
  have hl : r.length + 1 = n := h.s.1
  have hle := h.le
  refine ⟨⟨by omega, fun hp => ?_⟩, by omega, ?_, ?_⟩
  · obtain ⟨b2, o2, e, hc⟩ := h.s.2 (by omega)
    injection e with e
    injection e with e1 e2
    subst e1 e2
    rcases hao with rfl | ⟨h1, _⟩
    · refine ⟨_, _, rfl, fun j hj => ?_⟩
      have := hc (j + 1) (by omega)
      rw [show off + (j + 1) * 3 = off + 3 + j * 3 by omega] at this
      exact this
    · omega
  · intro e
    rcases hao with rfl | ⟨_, rfl⟩ <;> cases e
  · intro a e
    have := h.ne _ rfl
    rcases hao with rfl | ⟨_, rfl⟩
    · injection e with e; subst e; exact this
    · injection e with e; subst e; exact this
theorem Ml.other {w w' : World} {mb b : Nat} {ao : Option Addr} {n cap : Nat} {l : List Smp} (h : Ml w mb b ao n cap l) {row : Option Nat} (hg : w.grownBy w' row) (hr : ∀ a, ao = some a → 0 < n → some a.block ≠ row) : Ml w' mb b ao n cap l := ⟨h.s.kept hg hr, h.le, h.no, h.ne⟩
theorem Ml.blk {w : World} {mb b : Nat} {ao : Option Addr} {n cap : Nat} {l : List Smp} (h : Ml w mb b ao n cap l) : ∀ a, ao = some a → 0 < n → a.block < w.heap.size := by
  intro a e hp
  obtain ⟨b2, o2, e2, hc⟩ := h.s.2 hp
  rw [e2] at e
  injection e with e
  subst e
  exact World.block_lt_of_cell? w _ (hc 0 hp).1
theorem grown_any {w w' : World} (h : w.grownBy w' none) (row : Option Nat) : w.grownBy w' row := ⟨h.os, h.tape, h.output, h.size, fun k hk _ => h.block k hk (by simp)⟩
theorem Ms.cells {w : World} {vb off n : Nat} {l : List Smp} (h : Ms w (some ⟨vb, off, none⟩) n l) : ∀ j u, (cellsS l)[j]? = some u → w.cell? ((⟨vb, off, none⟩ : Addr).add j) = some u := by
  intro j u hu
  have hj : j < (cellsS l).length := by
    by_cases hj : j < (cellsS l).length
    · exact hj
    · rw [List.getElem?_eq_none (by omega)] at hu; cases hu
  rw [cellsS_length] at hj
  have hn := h.1
  obtain ⟨b2, o2, e, hc⟩ := h.2 (by omega)
  injection e with e
  injection e with e1 e2
  subst e1 e2
  obtain ⟨k0, k1, k2⟩ := hc (j / 3) (by omega)
  obtain ⟨g0, g1, g2⟩ := cellsS_get (l := l) (j := j / 3) (by omega)
  rw [Addr.add_lit]
  rcases (by omega : j = j / 3 * 3 ∨ j = j / 3 * 3 + 1 ∨ j = j / 3 * 3 + 2) with e | e | e
  · rw [e] at hu ⊢
    rw [g0] at hu
    exact k0.trans hu
  · rw [e] at hu ⊢
    rw [g1] at hu
    exact k1.trans hu
  · rw [e] at hu ⊢
    rw [g2] at hu
    exact k2.trans hu
theorem Own.ml {w : World} {base : Nat} {v : Value} {l : List Smp} {s : Smp} (h : Own w base v (l ++ [s])) (mb b : Nat) (h1 : mb < base) (h2 : b < base) : ∃ ao n cap, v = .slice ao n cap ∧ Ml w mb b ao n cap (l ++ [s]) := by
  obtain ⟨ao, cap, rfl, hs⟩ := h.slice
  rcases h.2 with ⟨e, h0⟩ | ⟨g, cap', cur, e, hb, _, hn, _⟩
  · simp at h0
  · injection e with e1 e2 e3
    subst e1 e3
    exact ⟨_, _, _, rfl, hs, hn, (fun e => by cases e), fun a e => by
      injection e with e
      subst e
      exact ⟨by show g ≠ mb; omega, by show g ≠ b; omega, rfl⟩⟩
theorem step_grows {ops : Array Oper} {o : Oper} {a : Act} {W : World} {K : Act → World → Prop} {Q : Exit → Act → World → Prop} {E : Prop} (s x : Operand) (d : Option Tmp) (t : TypeId)
    (ho : o.op = .call { callee := .builtin .append, args := #[s, x], argTypes := #[t, t] }) (hd : o.dst = d) (hw : Region.wanted o (yielded ops a.tmps) = true)
    (e : TypeId) (i : TypeInfo) (z : Value) (size bytes : Nat) (ht : Try.prog.underlying t = some (.slice e)) (hi : Try.prog.info? e = some i) (hz : i.zero = some z)
    (hsize : i.size = size) (hby : i.bytes = bytes) (hzs : z.cells.size = size) (hsz : 0 < size)
    (ao : Option Addr) (n cap : Nat) (olds : List Value) (hs : a.eval s = .slice ao n cap) (hnone : ao = none → n = 0 ∧ cap = 0) (hlo : olds.length = n * size) (holds : ∀ b, ao = some b → ∀ j u, olds[j]? = some u → W.cell? (b.add j) = some u)
    (ad : Addr) (m c : Nat) (news : List Value) (hx : a.eval x = .slice (some ad) m c) (hl : news.length = m * size) (hnews : ∀ j u, news[j]? = some u → W.cell? (ad.add j) = some u) (h1 : ∀ u ∈ news, u.oneCell' = true)
    (hfull : cap < n + m) (h63 : n + m ≤ maxLen) (hbytes : (n + m) * bytes ≤ 140737488355328)
    (h : ∀ v' w', w'.ownsRow W.heap.size e size v' (n + m) (olds ++ news) → W.grownBy w' none → K (a.put d v') w') :
    if Region.wanted o (yielded ops a.tmps) = true then Oper.wp Try.prog o a W K Q else E := by
  subst hd
  rw [if_pos hw]
  cases ao with
  | some b =>
    obtain ⟨v', w', hrun, r1, r2⟩ := run_append_arg_grows (P := Try.prog) W t o.type e i z size bytes ht hi hz hsize hby hzs hsz b n cap olds hlo (holds b rfl) ad m c news hl hnews hfull h63 hbytes
    unfold Oper.wp
    simp [execOp, ho, resolve, invoke, builtin, hs, hx, hrun, Result.andThen]
    exact h _ _ r1 r2
  | none =>
    obtain ⟨rfl, rfl⟩ := hnone rfl
    obtain rfl : olds = [] := List.length_eq_zero_iff.1 (by rw [hlo]; omega)
    exact wp_append_own W s x t ho W.heap.size e i z size bytes ht hi hz hsize hby hzs hsz (.slice none 0 0) 0 [] hs ⟨by simp, Or.inl ⟨rfl, rfl⟩⟩ ad m c news hx hl hnews h1 h63 hbytes (Nat.le_refl _) fun v' w' h2 h3 _ => h v' w' h2 h3

/-! ### What the law's own model knows -/
/-- The last one's time, as the law keeps it: that of the last one that was added. -/
structure Pv (la : Int) (l : List Smp) (k nw : Int) : Prop where
  p1 : l ≠ [] → la = (lst l).1
  p2 : l = [] → la ≤ nw - k ∨ la < 0
  p4 : la ≤ 1000000
theorem fg_lst (t : Int) : ∀ l : List Smp, fg t l ≠ [] → lst (fg t l) = lst l
  | [], h => absurd rfl h
  | s :: r, h => by
    by_cases e : s.1 ≤ t
    · have e1 : fg t (s :: r) = fg t r := by show (if s.1 ≤ t then _ else _) = _; rw [if_pos e]
      rw [e1] at h ⊢
      rw [fg_lst t r h]
      cases r with
      | nil => exact absurd rfl h
      | cons a q => rfl
    · have e1 : fg t (s :: r) = s :: r := by show (if s.1 ≤ t then _ else _) = _; rw [if_neg e]
      rw [e1]
theorem fg_gone (t : Int) : ∀ l : List Smp, fg t l = [] → l ≠ [] → (lst l).1 ≤ t
  | [], _, h => absurd rfl h
  | s :: r, h, _ => by
    by_cases e : s.1 ≤ t
    · have e1 : fg t (s :: r) = fg t r := by show (if s.1 ≤ t then _ else _) = _; rw [if_pos e]
      rw [e1] at h
      cases r with
      | nil => exact e
      | cons a q => exact fg_gone t (a :: q) h (by intro e; cases e)
    · have e1 : fg t (s :: r) = s :: r := by show (if s.1 ≤ t then _ else _) = _; rw [if_neg e]
      rw [e1] at h
      cases h
theorem Pv.adv {la : Int} {l : List Smp} {k nw : Int} (h : Pv la l k nw) (hw : Wf l k nw) (n : Int) : Pv la (fg (onw nw n - k) l) k (onw nw n) := by
  have hr := onw_range n hw.n1
  refine ⟨fun hn => ?_, fun hn => ?_, h.p4⟩
  · rw [fg_lst _ _ hn]
    exact h.p1 (fun e => hn (by rw [e]; rfl))
  · by_cases e : l = []
    · rcases h.p2 e with h1 | h1
      · exact Or.inl (by omega)
      · exact Or.inr h1
    · rw [h.p1 e]
      exact Or.inl (fg_gone _ _ hn e)
theorem Pv.same {la : Int} {l : List Smp} {k nw : Int} (h : Pv la l k nw) {t : Int} (ho : ¬ (t < 0 ∨ nw < t ∨ t ≤ nw - k)) : (l ≠ [] ∧ t ≤ (lst l).1) ↔ t ≤ la := by
  constructor
  · rintro ⟨h1, h2⟩
    rw [h.p1 h1]
    exact h2
  · intro h1
    by_cases e : l = []
    · rcases h.p2 e with h2 | h2 <;> omega
    · exact ⟨e, by rw [← h.p1 e]; exact h1⟩
theorem Pv.snoc {la : Int} {l : List Smp} {k nw : Int} (_ : Pv la l k nw) (s : Smp) (hm : s.1 ≤ 1000000) : Pv s.1 (l ++ [s]) k nw :=
  ⟨fun _ => by rw [lst_snoc], fun e => by simp at e, hm⟩
theorem clamp_eq (n : Int) : max 1 (min n 100) = clamp n := by unfold clamp; split <;> (try split) <;> omega

/-- The samples as the law keeps them. -/
def mN (l : List Smp) : List Smp := l.map nrm
theorem mN_len (l : List Smp) : (mN l).length = l.length := List.length_map _
theorem mN_snoc (l : List Smp) (s : Smp) : mN (l ++ [s]) = mN l ++ [nrm s] := by simp [mN]
theorem mN_fg (t : Int) : ∀ l, fg t (mN l) = mN (fg t l)
  | [] => rfl
  | s :: r => by
    by_cases e : s.1 ≤ t
    · have e1 : fg t (s :: r) = fg t r := by show (if s.1 ≤ t then _ else _) = _; rw [if_pos e]
      have e2 : fg t (nrm s :: mN r) = fg t (mN r) := by show (if s.1 ≤ t then _ else _) = _; rw [if_pos e]
      rw [e1, ← mN_fg t r]
      exact e2
    · have e1 : fg t (s :: r) = s :: r := by show (if s.1 ≤ t then _ else _) = _; rw [if_neg e]
      have e2 : fg t (nrm s :: mN r) = nrm s :: mN r := by show (if s.1 ≤ t then _ else _) = _; rw [if_neg e]
      rw [e1]
      exact e2
theorem mN_get (l : List Smp) (j : Nat) : (mN l).getD j s0 = nrm (l.getD j s0) := by
  unfold mN
  rw [List.getD_eq_getElem?_getD, List.getD_eq_getElem?_getD, List.getElem?_map]
  cases l[j]? with
  | none => rfl
  | some x => rfl
theorem mN_r64 {l : List Smp} (h : ∀ s ∈ l, R64 s.2.2) : ∀ s ∈ mN l, R64 s.2.2 := by
  intro s hs
  obtain ⟨x, hx, rfl⟩ := List.mem_map.1 hs
  exact nrm_r64 x (h x hx)
theorem getD_r64 {l : List Smp} (h : ∀ s ∈ l, R64 s.2.2) (j : Nat) : R64 (l.getD j s0).2.2 := by
  rw [List.getD_eq_getElem?_getD]
  cases e : l[j]? with
  | none => exact ⟨by show _ ≤ (0 : Int); omega, by show (0 : Int) ≤ _; omega⟩
  | some x => exact h x (List.mem_of_getElem? e)
theorem cnt_nrm (s : Smp) (h : R64 s.2.2) : cnt (nrm s).2.1 (nrm s).2.2 = cnt s.2.1 s.2.2 := cnt_val (V.cnt h.1 h.2)
theorem mN_inc {l : List Smp} (h : ∀ s ∈ l, R64 s.2.2) : incP (mN l) = incP l := by
  unfold incP
  rw [mN_len]
  have e : dls (mN l) (l.length - 1) = dls l (l.length - 1) := by
    unfold dls
    refine List.map_congr_left fun j _ => ?_
    have e1 : incO ((mN l).getD j s0).2 ((mN l).getD (j + 1) s0).2 = incO (l.getD j s0).2 (l.getD (j + 1) s0).2 := by
      rw [mN_get, mN_get]
      unfold incO
      rw [cnt_nrm _ (getD_r64 h j), cnt_nrm _ (getD_r64 h (j + 1))]
    unfold incN
    rw [e1]
  rw [e]
theorem mN_rs {l : List Smp} (h : ∀ s ∈ l, R64 s.2.2) : rsP (mN l) = rsP l := by
  unfold rsP
  rw [mN_len]
  have e : ∀ j, rsN (mN l) j = rsN l j := by
    intro j
    induction j with
    | zero => rfl
    | succ j ih =>
      have e1 : rsb (mN l) j = rsb l j := by
        unfold rsb
        rw [mN_get, mN_get, cnt_nrm _ (getD_r64 h j), cnt_nrm _ (getD_r64 h (j + 1))]
      show rsN (mN l) j + (if rsb (mN l) j = true then 1 else 0) = rsN l j + (if rsb l j = true then 1 else 0)
      rw [ih, e1]
  exact e _
end Go.Proofs.Ythcakiibkocheaa
