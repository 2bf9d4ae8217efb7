/- Texts that the others lean on. -/
import Derived.Test.YtjgckfcocmhnhaaGreatDoorKH3
import Derived.Test.YtjgckfcocmhnhaaGreatDoorKL2
import Derived.Test.YtjgckfcocmhnhaaGreatDoorKL3
import Derived.Test.YtjgckfcocmhnhaaGreatDoorKL4
namespace Go.Proofs.YtjgckfcocmhnhaaGreatDoor.Lb
open Go.RowKit
theorem refSame_any (xa : Option Addr) (n c : Nat) (a : List Pr) (ya : Option Addr) (m d : Nat) (b : List Pr) (w : World) (hn : n ≤ 9223372036854775807) (hm : m ≤ 9223372036854775807) (hx : Ps w xa n a) (hy : Ps w ya m b) :
  Calls Tryz.prog 45 #[.slice xa n c, .slice ya m d] w fun e w' => e = .returned (.bool (fCmp a b == 0)) ∧ Below w.heap.size w w' := by
 have hc := refCmp_any xa n c a ya m d b w hn hm hx hy
 clear hx hy
 generalize fCmp a b = z at *
 go_enter Tryz.func45, Tryz.ntmps45
 go_wp2_with fail
 refine hc.mono ?_
 rintro e w1 ⟨rfl, hb1⟩
 go_wp2
 go_ret
 exact ⟨rfl, hb1⟩
end Go.Proofs.YtjgckfcocmhnhaaGreatDoor.Lb
namespace Go.Proofs.YtjgckfcocmhnhaaGreatDoor.Hy
open Go.RowKit
/-- A set of pairs in memory, in a row of its own kind. -/
def Pq (w : World) (v : Value) (a : List Lb.Pr) : Prop := ∃ xa xn xc, v = .slice xa xn xc ∧ xn ≤ 1000000 ∧ Lb.Ps w xa xn a ∧ ∀ g, v.ownBlock = some g → 0 < xn → Ty w g 45 ∧ ∃ s, w.cell? ⟨g, 0, none⟩ = some (Lb.tx s)
/-- A set of pairs in memory, of whatever block. -/
def Pv (w : World) (v : Value) (a : List Lb.Pr) : Prop := ∃ xa xn xc, v = .slice xa xn xc ∧ xn ≤ 1000000 ∧ Lb.Ps w xa xn a
theorem Pv.later {w w' : World} {v : Value} {a : List Lb.Pr} (h : Pv w v a) (hb : Below w.heap.size w w') : Pv w' v a := by
 obtain ⟨xa, xn, xc, rfl, hn, hp⟩ := h
 exact ⟨xa, xn, xc, rfl, hn, hp.later hb⟩
theorem ps_gf {w w' : World} {xa : Option Addr} {xn : Nat} {a : List Lb.Pr} {F : Nat → Prop} (h : Lb.Ps w xa xn a) (hg : Gf w w' F) (hF : 0 < xn → ∀ b off, xa = some ⟨b, off, none⟩ → ¬ F b) : Lb.Ps w' xa xn a := by
 obtain ⟨hl, hc⟩ := h
 refine ⟨hl, fun hpos => ?_⟩
 obtain ⟨b, off, rfl, hcell⟩ := hc hpos
 have hfb := hF hpos b off rfl
 exact ⟨b, off, rfl, fun j hj => ⟨hg.cell (hcell j hj).1 hfb, hg.cell (hcell j hj).2 hfb⟩⟩
theorem Pv.gf {w w' : World} {qa : Option Addr} {qn qc : Nat} {a : List Lb.Pr} {F : Nat → Prop} (h : Pv w (.slice qa qn qc) a) (hg : Gf w w' F) (hF : 0 < qn → ∀ g, (Value.slice qa qn qc).ownBlock = some g → ¬ F g) : Pv w' (.slice qa qn qc) a := by
 obtain ⟨xa, xn, xc, e, hn, hp⟩ := h
 injection e with e1 e2 e3
 subst e1 e2 e3
 exact ⟨_, _, _, rfl, hn, ps_gf hp hg fun h0 b off e => hF h0 b (by rw [e]; rfl)⟩
theorem Pq.later {w w' : World} {v : Value} {a : List Lb.Pr} (h : Pq w v a) (hb : Below w.heap.size w w') : Pq w' v a := by
 obtain ⟨xa, xn, xc, rfl, hn, hp, ht⟩ := h
 refine ⟨xa, xn, xc, rfl, hn, hp.later hb, fun g e h0 => ?_⟩
 obtain ⟨h1, s, h2⟩ := ht g e h0
 exact ⟨h1.later hb, s, (hb.cell (p := ⟨g, 0, none⟩) (World.block_lt_of_cell? _ _ h2)).trans h2⟩
theorem Pq.gfz {w w' : World} {v : Value} {a : List Lb.Pr} {F : Nat → Prop} (h : Pq w v a) (hg : Gf w w' F) (hF : ∀ g, Ty w g 45 → (∃ s, w.cell? ⟨g, 0, none⟩ = some (Lb.tx s)) → ¬ F g) : Pq w' v a := by
 obtain ⟨xa, xn, xc, rfl, hn, hp, ht⟩ := h
 refine ⟨xa, xn, xc, rfl, hn, ps_gf hp hg fun h0 b off e => ?_, fun g e h0 => ?_⟩
 ·
  have := ht b (by rw [e]; rfl) h0
  exact hF b this.1 this.2
 ·
  obtain ⟨h1, s, h2⟩ := ht g e h0
  have hn := hF g h1 ⟨s, h2⟩
  exact ⟨h1.gf hg hn, s, hg.cell h2 hn⟩
theorem Pq.gf {w w' : World} {v : Value} {a : List Lb.Pr} {F : Nat → Prop} (h : Pq w v a) (hg : Gf w w' F) (hF : ∀ g, Ty w g 45 → ¬ F g) : Pq w' v a := h.gfz hg fun g h1 _ => hF g h1
/-- A history in plain words. -/
abbrev HL := List (List Lb.Pr × List Smp)
def d0 : List Lb.Pr × List Smp := ([], [])
def Hl (w : World) (hb : Nat) (now : Int) (base : Nat) (L : HL) : Prop :=
 ∃ ao n cap rs, Hx w hb now base ao n cap rs ∧ rs.length = L.length ∧ ∀ j, j < L.length → Pq w (rs.getD j r0).2.1 (L.getD j d0).1 ∧ (rs.getD j r0).2.2.2.2.2 = (L.getD j d0).2
theorem Hl.later {w w' : World} {hb : Nat} {now : Int} {base : Nat} {L : HL} (h : Hl w hb now base L) (hw : Below w.heap.size w w') : Hl w' hb now base L := by
 obtain ⟨ao, n, cap, rs, hx, hl, hj⟩ := h
 exact ⟨ao, n, cap, rs, hx.later hw, hl, fun j e => ⟨(hj j e).1.later hw, (hj j e).2⟩⟩
/-- The history's blocks are none of the pairs' kind. -/
theorem Hx.no_pairs {w : World} {hb : Nat} {now : Int} {base : Nat} {ao : Option Addr} {n cap : Nat} {rs : List Rec} (h : Hx w hb now base ao n cap rs) : ∀ g, Ty w g 45 → ¬ Ft hb (.slice ao n cap) rs g := by
 rintro g ht (e | e | ⟨r, hr, e | e⟩)
 ·
  exact ht.ne h.t (by decide) e
 ·
  exact ht.ne (row_ty h.p e) (by decide) rfl
 ·
  exact ht.ne (h.r r hr).t (by decide) e
 ·
  exact ht.ne (row_ty (h.r r hr).o e) (by decide) rfl
/-- Who is there; how many. -/
def thrL (now : Int) (x : List Lb.Pr × List Smp) : Bool := decide (now - 100 < (lst x.2).1)
def liveL (now : Int) (L : HL) : Nat := L.countP (thrL now)
theorem live_eq {now : Int} {rs : List Rec} {L : HL} (h : ∀ j, j < L.length → (rs.getD j r0).2.2.2.2.2 = (L.getD j d0).2) : ∀ k, k ≤ L.length → lvN now rs k = (L.take k).countP (thrL now)
 | 0, _ => by simp [lvN]
 | k + 1, hk => by
  have hk2 : k < L.length := by omega
  rw [lvN, live_eq h k (by omega), List.take_succ_eq_append_getElem hk2, List.countP_append, List.countP_singleton]
  have e : thr now (rs.getD k r0) = thrL now L[k] := by
   unfold thr thrL
   rw [h k hk2, List.getD_eq_getElem?_getD, List.getElem?_eq_getElem hk2]
   rfl
  rw [e]
/-- Who has this set. -/
def findL (q : List Lb.Pr) (L : HL) : Option Nat := L.findIdx? fun x => decide (x.1 = q)
theorem find_fst {q : List Lb.Pr} {L : HL} : Fst (fun j => Lb.fCmp (L.getD j d0).1 q == 0) L.length (findL q L) := by
 have hS : ∀ j, j < L.length → ((Lb.fCmp (L.getD j d0).1 q == 0) = decide ((L.getD j d0).1 = q)) := fun j _ => by
  rw [Bool.eq_iff_iff, beq_iff_eq, decide_eq_true_eq, Lb.fCmp_zero]
 have hD : ∀ j (hj : j < L.length), L.getD j d0 = L[j] := fun j hj => by rw [List.getD_eq_getElem?_getD, List.getElem?_eq_getElem hj]; rfl
 unfold findL
 cases hf : L.findIdx? fun x => decide (x.1 = q) with
 | none =>
  intro j hj
  show (Lb.fCmp (L.getD j d0).1 q == 0) = false
  rw [hS j hj, hD j hj]
  have := List.findIdx?_eq_none_iff.1 hf L[j] (List.getElem_mem hj)
  simpa using this
 | some i =>
  obtain ⟨hi, h1, h2⟩ := List.findIdx?_eq_some_iff_getElem.1 hf
  refine ⟨hi, ?_, fun k hk => ?_⟩
  ·
   show (Lb.fCmp (L.getD i d0).1 q == 0) = true
   rw [hS i hi, hD i hi]
   exact h1
  ·
   show (Lb.fCmp (L.getD k d0).1 q == 0) = false
   rw [hS k (by omega), hD k (by omega)]
   simpa using h2 k hk
end Go.Proofs.YtjgckfcocmhnhaaGreatDoor.Hy
namespace Go.Proofs.YtjgckfcocmhnhaaGreatDoor.Hy
open Go.RowKit
def posL (q : List Lb.Pr) (L : HL) : Nat := L.findIdx fun x => decide (0 ≤ Lb.fCmp x.1 q)
theorem pos_le (q : List Lb.Pr) (L : HL) : posL q L ≤ L.length := List.findIdx_le_length
theorem pos_lt {q : List Lb.Pr} {L : HL} {i : Nat} (h : i < posL q L) : Lb.fCmp (L.getD i d0).1 q < 0 := by
 have hl := pos_le q L
 have := List.not_of_lt_findIdx h
 rw [List.getD_eq_getElem?_getD, List.getElem?_eq_getElem (by omega)]
 simp only [decide_eq_false_iff_not] at this
 show Lb.fCmp (L[i]).1 q < 0
 simp at this
 omega
theorem pos_ge {q : List Lb.Pr} {L : HL} (h : posL q L < L.length) : 0 ≤ Lb.fCmp (L.getD (posL q L) d0).1 q := by
 have := List.findIdx_getElem (w := h)
 have h2 : decide (0 ≤ Lb.fCmp (L[posL q L]).1 q) = true := this
 rw [List.getD_eq_getElem?_getD, List.getElem?_eq_getElem h]
 exact of_decide_eq_true h2
/-- A sample as it is kept. -/
def adN (s : Smp) : Smp := (s.1, ov (cnt s.2.1 s.2.2), nn (cnt s.2.1 s.2.2))
/-- What Add says. -/
def addE (now : Int) (L : HL) (q : List Lb.Pr) (t : Int) : Int :=
 if Lb.fIs q = false then 30 else if t < 0 ∨ now < t ∨ t ≤ now - 100 then 152 else
 match findL q L with
 | some j => if now - 100 < (lst (L.getD j d0).2).1 then (if t ≤ (lst (L.getD j d0).2).1 then 150 else 0) else if 16 ≤ liveL now L then 151 else 0
 | none => if 16 ≤ liveL now L then 151 else 0
/-- What it leaves. -/
def addL (now : Int) (L : HL) (q : List Lb.Pr) (s : Smp) : HL :=
 if addE now L q s.1 ≠ 0 then L else
 match findL q L with
 | some j => L.set j ((L.getD j d0).1, (L.getD j d0).2 ++ [adN s])
 | none => L.take (posL q L) ++ (q, [adN s]) :: L.drop (posL q L)
/-- A history in plain words whose blocks are among F. -/
def Hf (w : World) (hb : Nat) (now : Int) (base : Nat) (F : Nat → Prop) (L : HL) : Prop :=
 ∃ ao n cap rs, Hx w hb now base ao n cap rs ∧ rs.length = L.length ∧ (∀ k, Ft hb (.slice ao n cap) rs k → F k) ∧ ∀ j, j < L.length → Pq w (rs.getD j r0).2.1 (L.getD j d0).1 ∧ (rs.getD j r0).2.2.2.2.2 = (L.getD j d0).2
theorem Hf.later {w w' : World} {hb : Nat} {now : Int} {base : Nat} {F F' : Nat → Prop} {L : HL} (h : Hf w hb now base F L) (hw : Below w.heap.size w w') (hF : ∀ k, F k → F' k) : Hf w' hb now base F' L := by
 obtain ⟨ao, n, cap, rs, hx, hl, hf, hj⟩ := h
 exact ⟨ao, n, cap, rs, hx.later hw, hl, fun k e => hF k (hf k e), fun j e => ⟨(hj j e).1.later hw, (hj j e).2⟩⟩
set_option maxHeartbeats 4000000 in
theorem add_no (hb : Nat) (now : Int) (base : Nat) (F : Nat → Prop) (L : HL) (qa : Option Addr) (qn qc : Nat) (q : List Lb.Pr) (t : Int) (xo : Bool) (xn : Int) (w : World) (h : Hf w hb now base F L) (hq : Pv w (.slice qa qn qc) q) (hfit : Lb.Fit q) (hne : addE now L q t ≠ 0) :
  Calls Tryz.prog 14 #[.pointer (some ⟨hb, 0, none⟩), .slice qa qn qc, sv (t, xo, xn)] w fun e w' => e = .returned (.int .i64 (addE now L q t)) ∧ Below w.heap.size w w' := by
 obtain ⟨ao, n, cap, rs, hx, hl, _, hj⟩ := h
 obtain ⟨xa, xm, xc, e, hm, hp⟩ := hq
 injection e with e1 e2 e3
 subst e1 e2 e3
 have hm' := hx.hm
 have hn : rs.length = n := hm'.p.1
 have his : ∀ W, Below w.heap.size w W → Calls Tryz.prog 37 #[.slice qa qn qc] W fun e w' => e = .returned (.bool (Lb.fIs q)) ∧ Below W.heap.size W w' := fun W hW => Lb.refIs_any qa qn qc q W (by omega) hfit (hp.later hW)
 have hsame : ∀ j, j < n → ∀ W, Below w.heap.size w W → Calls Tryz.prog 45 #[(rs.getD j r0).2.1, .slice qa qn qc] W fun e w' => e = .returned (.bool (Lb.fCmp (L.getD j d0).1 q == 0)) ∧ Below W.heap.size W w' := fun j hjn W hW => by
  obtain ⟨ya, ym, yc, e, hm2, hp2, _⟩ := (hj j (by omega)).1
  rw [e]
  exact Lb.refSame_any ya ym yc _ qa qn qc q W (by omega) (by omega) (hp2.later hW) (hp.later hW)
 have hlv : lvN now rs n = liveL now L := by
  rw [live_eq (fun j e => (hj j e).2) n (by omega), List.take_of_length_le (by omega)]
  rfl
 have hF := find_fst (q := q) (L := L)
 rw [show L.length = n by omega] at hF
 unfold addE at hne ⊢
 by_cases c1 : Lb.fIs q = false
 ·
  rw [if_pos c1]
  rw [c1] at his
  exact add_30 hb now ao n cap rs _ t xo xn w hm' his
 ·
  rw [if_neg c1] at hne ⊢
  rw [show Lb.fIs q = true by simpa using c1] at his
  by_cases c2 : t < 0 ∨ now < t ∨ t ≤ now - 100
  ·
   rw [if_pos c2]
   exact add_152 hb now ao n cap rs _ t xo xn w hm' his c2
  ·
   rw [if_neg c2] at hne ⊢
   have hok : 0 ≤ t ∧ t ≤ now ∧ now - 100 < t := by omega
   cases hf : findL q L with
   | none =>
    rw [hf] at hF hne
    dsimp only at hne ⊢
    by_cases c3 : 16 ≤ liveL now L
    ·
     rw [if_pos c3]
     exact add_151n hb now ao n cap rs _ t xo xn _ w hm' his hsame hok hF (by omega)
    ·
     rw [if_neg c3] at hne; exact absurd rfl hne
   | some j =>
    rw [hf] at hF hne
    dsimp only at hne ⊢
    have hjl := (hj j (by have := hF.1; omega)).2
    rw [← hjl] at hne ⊢
    by_cases c3 : now - 100 < (lst (rs.getD j r0).2.2.2.2.2).1
    ·
     rw [if_pos c3] at hne ⊢
     by_cases c4 : t ≤ (lst (rs.getD j r0).2.2.2.2.2).1
     ·
      rw [if_pos c4]
      exact add_150 j hb now ao n cap rs _ t xo xn _ w hm' his hsame hok hF c3 c4
     ·
      rw [if_neg c4] at hne; exact absurd rfl hne
    ·
     rw [if_neg c3] at hne ⊢
     by_cases c4 : 16 ≤ liveL now L
     ·
      rw [if_pos c4]
      exact add_151s j hb now ao n cap rs _ t xo xn _ w hm' his hsame hok hF (by omega) (by omega)
     ·
      rw [if_neg c4] at hne; exact absurd rfl hne
end Go.Proofs.YtjgckfcocmhnhaaGreatDoor.Hy
