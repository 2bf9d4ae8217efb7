/- Texts that the others lean on. -/
import Derived.Test.YtjgckfcocmhnhaaGreatDoorKMZ
import Derived.Test.YtjgckfcocmhnhaaGreatDoorKP2
import Derived.Test.YtjgckfcocmhnhaaGreatDoorKH4
namespace Go.Proofs.YtjgckfcocmhnhaaGreatDoor.Sp
open Go.RowKit
abbrev Smp := Int × Bool × Int
abbrev HL := List (List Lb.Pr × List Smp)
abbrev Ri (l : List Smp) : Prop := l.Pairwise (fun a b => a.1 < b.1)
abbrev SL (L : HL) : Prop := L.Pairwise (fun a b => Lb.fCmp a.1 b.1 < 0)
/-- What is in the widest window. -/
def cut (now : Int) (l : List Smp) : List Smp := l.filter fun s => decide (now - 100 < s.1)
theorem fg_eq (t : Int) : ∀ l : List Smp, Ri l → Rn.fg t l = l.filter (fun s => decide (t < s.1))
 | [], _ => rfl
 | s :: r, h => by
  have h1 := List.pairwise_cons.1 h
  unfold Rn.fg
  by_cases hs : s.1 ≤ t
  ·
   rw [if_pos hs, fg_eq t r h1.2, List.filter_cons_of_neg (by simpa using hs)]
  ·
   rw [if_neg hs]
   refine (List.filter_eq_self.2 fun x hx => ?_).symm
   rcases List.mem_cons.1 hx with rfl | hx
   ·
    simpa using hs
   ·
    have := h1.1 x hx
    rw [decide_eq_true_eq]
    omega
theorem addAll_eq (k now : Int) : ∀ (l a : List Smp), Ri l → (∀ s ∈ l, 0 ≤ s.1 ∧ s.1 ≤ now ∧ Rn.nrm s = s) → (∀ x ∈ a, ∀ y ∈ l, x.1 < y.1) → Sr.addAll k now a l = a ++ l.filter (fun s => decide (now - k < s.1))
 | [], a, _, _, _ => by simp [Sr.addAll]
 | s :: r, a, h, hs, ha => by
  have h1 := List.pairwise_cons.1 h
  have hsm := hs s List.mem_cons_self
  have hr : ∀ x ∈ r, 0 ≤ x.1 ∧ x.1 ≤ now ∧ Rn.nrm x = x := fun x hx => hs x (List.mem_cons_of_mem _ hx)
  show Sr.addAll k now (Rn.adL a k now s) r = _
  by_cases hw : now - k < s.1
  ·
   have e : Rn.adL a k now s = a ++ [s] := by
    have e0 : Rn.adE a k now s.1 = 0 := by
     unfold Rn.adE
     rw [if_neg (by omega), if_neg]
     rintro ⟨hne, hle⟩
     have := ha _ (Rn.lst_mem hne) s List.mem_cons_self
     omega
    unfold Rn.adL
    rw [if_pos e0, hsm.2.2]
   rw [e, addAll_eq k now r (a ++ [s]) h1.2 hr, List.filter_cons_of_pos (by simpa using hw), List.append_assoc]
   ·
    rfl
   ·
    intro x hx y hy
    rcases List.mem_append.1 hx with hx | hx
    ·
     exact ha x hx y (List.mem_cons_of_mem _ hy)
    ·
     rw [List.mem_singleton.1 hx]; exact h1.1 y hy
  ·
   have e : Rn.adL a k now s = a := by
    have e0 : Rn.adE a k now s.1 = 152 := by
     unfold Rn.adE
     rw [if_pos (by omega)]
    unfold Rn.adL
    rw [if_neg (by rw [e0]; decide)]
   rw [e, addAll_eq k now r a h1.2 hr (fun x hx y hy => ha x hx y (List.mem_cons_of_mem _ hy)), List.filter_cons_of_neg (by simpa using hw)]
theorem cut_ri {now : Int} {l : List Smp} (h : Ri l) : Ri (cut now l) := h.sublist List.filter_sublist
theorem cut_cut {a b : Int} (h : a ≤ b) (l : List Smp) : cut b (cut a l) = cut b l := by
 unfold cut
 rw [List.filter_filter]
 refine List.filter_congr fun x _ => ?_
 rw [Bool.eq_iff_iff, Bool.and_eq_true, decide_eq_true_eq, decide_eq_true_eq]
 omega
theorem lst_cut {now : Int} {l : List Smp} (hne : cut now l ≠ []) (h : Ri l) : now - 100 < (Rn.lst l).1 ∧ Rn.lst (cut now l) = Rn.lst l := by
 obtain ⟨x, hx⟩ := List.exists_mem_of_ne_nil _ hne
 obtain ⟨hx1, hx2⟩ := List.mem_filter.1 hx
 rw [decide_eq_true_eq] at hx2
 have h1 := Rn.lst_last h x hx1
 have h2 : now - 100 < (Rn.lst l).1 := by omega
 refine ⟨h2, ?_⟩
 have hl : l ≠ [] := fun e => by rw [e] at hx1; cases hx1
 have e := List.dropLast_concat_getLast hl
 have e2 : Rn.lst (l.dropLast ++ [l.getLast hl]) = l.getLast hl := Rn.lst_snoc _ _
 rw [e] at e2
 rw [e2] at h2 ⊢
 conv => lhs; rw [← e]
 unfold cut
 rw [List.filter_append, List.filter_cons_of_pos (by simpa using h2), List.filter_nil, Rn.lst_snoc]
theorem cut_iff {now : Int} {l : List Smp} (hl : l ≠ []) (h : Ri l) : cut now l ≠ [] ↔ now - 100 < (Rn.lst l).1 := by
 refine ⟨fun hne => (lst_cut hne h).1, fun hlt e => ?_⟩
 have hm := Rn.lst_mem hl
 have : Rn.lst l ∈ cut now l := List.mem_filter.2 ⟨hm, by simpa using hlt⟩
 rw [e] at this
 cases this
/-- What a history's lists keep to. -/
structure PH (now : Int) (H : HL) : Prop where
 so : ∀ x ∈ H, Ri x.2
 ne : ∀ x ∈ H, x.2 ≠ []
 at_ : ∀ x ∈ H, ∀ s ∈ x.2, 0 ≤ s.1 ∧ s.1 ≤ now
 nr : ∀ x ∈ H, ∀ s ∈ x.2, Rn.nrm s = s ∧ R64 s.2.2
 st : SL H
 is : ∀ x ∈ H, Lb.fIs x.1 = true
theorem PH.nil (now : Int) : PH now [] := ⟨(by simp), (by simp), (by simp), (by simp), List.Pairwise.nil, (by simp)⟩
theorem PH.adv {now now' : Int} {H : HL} (h : PH now H) (hle : now ≤ now') : PH now' H :=
 ⟨h.so, h.ne, fun x hx s hs => by have := h.at_ x hx s hs; omega, h.nr, h.st, h.is⟩
/-- Who is there. -/
abbrev vw (now : Int) (H : HL) : HL := Sr.advL now H
theorem adv_eq (now : Int) {H : HL} (h : ∀ x ∈ H, Ri x.2) : vw now H = (H.map fun x => (x.1, cut now x.2)).filter fun x => !x.2.isEmpty := by
 unfold vw Sr.advL
 have : (H.map fun x => (x.1, Rn.fg (now - 100) x.2)) = H.map fun x => (x.1, cut now x.2) := List.map_congr_left fun x hx => by
  rw [fg_eq _ _ (h x hx)]
  rfl
 rw [this]
theorem mem_adv {now : Int} {H : HL} (h : ∀ x ∈ H, Ri x.2) (y : List Lb.Pr × List Smp) : y ∈ vw now H ↔ ∃ x ∈ H, y = (x.1, cut now x.2) ∧ cut now x.2 ≠ [] := by
 rw [adv_eq now h, List.mem_filter, List.mem_map]
 constructor
 ·
  rintro ⟨⟨x, hx, rfl⟩, h2⟩
  refine ⟨x, hx, rfl, fun e => ?_⟩
  dsimp only at h2
  rw [e] at h2
  cases h2
 ·
  rintro ⟨x, hx, rfl, h2⟩
  refine ⟨⟨x, hx, rfl⟩, ?_⟩
  dsimp only
  cases hc : cut now x.2 with
  | nil => exact absurd hc h2
  | cons a r => rfl
theorem adv_sl {now : Int} {H : HL} (h : ∀ x ∈ H, Ri x.2) (hs : SL H) : SL (vw now H) := by
 rw [adv_eq now h]
 refine List.Pairwise.sublist List.filter_sublist ?_
 exact List.pairwise_map.2 hs
theorem cmp_self (a : List Lb.Pr) : Lb.fCmp a a = 0 := (Lb.fCmp_zero a a).2 rfl
theorem cmp_anti {a b : List Lb.Pr} (h1 : Lb.fCmp a b < 0) (h2 : Lb.fCmp b a < 0) : False := by
 have := Lb.fCmp_neg a b
 omega
theorem srt_ext : ∀ A B : HL, SL A → SL B → (∀ y, y ∈ A ↔ y ∈ B) → A = B
 | [], [], _, _, _ => rfl
 | [], b :: B, _, _, h => by have := (h b).2 List.mem_cons_self; cases this
 | a :: A, [], _, _, h => by have := (h a).1 List.mem_cons_self; cases this
 | a :: A, b :: B, hA, hB, h => by
  have hA1 := List.pairwise_cons.1 hA
  have hB1 := List.pairwise_cons.1 hB
  have e : a = b := by
   rcases List.mem_cons.1 ((h a).1 List.mem_cons_self) with e | e
   ·
    exact e
   ·
    rcases List.mem_cons.1 ((h b).2 List.mem_cons_self) with e2 | e2
    ·
     exact e2.symm
    ·
     exact (cmp_anti (hA1.1 b e2) (hB1.1 a e)).elim
  subst e
  congr 1
  refine srt_ext A B hA1.2 hB1.2 fun y => ⟨fun hy => ?_, fun hy => ?_⟩
  ·
   rcases List.mem_cons.1 ((h y).1 (List.mem_cons_of_mem _ hy)) with e | e
   ·
    have := hA1.1 y hy
    rw [e, cmp_self] at this
    omega
   ·
    exact e
  ·
   rcases List.mem_cons.1 ((h y).2 (List.mem_cons_of_mem _ hy)) with e | e
   ·
    have := hB1.1 y hy
    rw [e, cmp_self] at this
    omega
   ·
    exact e
theorem sl_uniq {L : HL} (h : SL L) {x y : List Lb.Pr × List Smp} (hx : x ∈ L) (hy : y ∈ L) (e : x.1 = y.1) : x = y := by
 obtain ⟨i, hi, rfl⟩ := List.getElem_of_mem hx
 obtain ⟨j, hj, rfl⟩ := List.getElem_of_mem hy
 rcases Nat.lt_trichotomy i j with hlt | rfl | hgt
 ·
  have := List.pairwise_iff_getElem.1 h i j hi hj hlt
  rw [e, cmp_self] at this
  omega
 ·
  rfl
 ·
  have := List.pairwise_iff_getElem.1 h j i hj hi hgt
  rw [e, cmp_self] at this
  omega
theorem look_mem {L : HL} (h : SL L) {q : List Lb.Pr} {l : List Smp} (hm : (q, l) ∈ L) : Sr.posL q L < L.length ∧ L.getD (Sr.posL q L) Sr.d0 = (q, l) ∧ Sr.hasL q L = true ∧ Sr.smpL q L = l := by
 obtain ⟨i, hi, e⟩ := List.getElem_of_mem hm
 have hp : Sr.posL q L = i := by
  unfold Sr.posL
  rw [List.findIdx_eq hi]
  constructor
  ·
   rw [e, decide_eq_true_eq, cmp_self]
   exact Int.le_refl _
  ·
   intro j hj
   have := List.pairwise_iff_getElem.1 h j i (by omega) hi hj
   rw [e] at this
   rw [decide_eq_false_iff_not]
   dsimp only at this
   omega
 have hd : L.getD (Sr.posL q L) Sr.d0 = (q, l) := by rw [hp, List.getD_eq_getElem?_getD, List.getElem?_eq_getElem hi, e]; rfl
 have hh : Sr.hasL q L = true := by
  unfold Sr.hasL
  rw [hd, Bool.and_eq_true, decide_eq_true_eq, decide_eq_true_eq, cmp_self]
  exact ⟨by omega, rfl⟩
 refine ⟨by omega, hd, hh, ?_⟩
 unfold Sr.smpL
 rw [if_pos hh, hd]
theorem look_no {L : HL} {q : List Lb.Pr} (h : ∀ x ∈ L, x.1 ≠ q) : Sr.hasL q L = false ∧ Sr.smpL q L = [] := by
 have hh : Sr.hasL q L = false := by
  cases hc : Sr.hasL q L with
  | false => rfl
  | true =>
   unfold Sr.hasL at hc
   rw [Bool.and_eq_true, decide_eq_true_eq, decide_eq_true_eq, Lb.fCmp_zero] at hc
   refine absurd hc.2 (h _ ?_)
   rw [List.getD_eq_getElem?_getD, List.getElem?_eq_getElem hc.1]
   exact List.getElem_mem hc.1
 refine ⟨hh, ?_⟩
 unfold Sr.smpL
 rw [hh]
 rfl
theorem find_one {q : List Lb.Pr} {H : HL} {j : Nat} (h : Hy.findL q H = some j) : ∃ hj : j < H.length, H[j].1 = q ∧ H.getD j Hy.d0 = H[j] := by
 unfold Hy.findL at h
 obtain ⟨hj, h1, _⟩ := List.findIdx?_eq_some_iff_getElem.1 h
 refine ⟨hj, by simpa using h1, ?_⟩
 rw [List.getD_eq_getElem?_getD, List.getElem?_eq_getElem hj]
 rfl
theorem find_no {q : List Lb.Pr} {H : HL} (h : Hy.findL q H = none) : ∀ x ∈ H, x.1 ≠ q := by
 intro x hx
 unfold Hy.findL at h
 simpa using List.findIdx?_eq_none_iff.1 h x hx
/-- A set's samples, all of them. -/
def samp (q : List Lb.Pr) (H : HL) : List Smp := match Hy.findL q H with
 | some j => (H.getD j Hy.d0).2
 | none => []
theorem look_vw {now : Int} {H : HL} (h : PH now H) (q : List Lb.Pr) : Sr.hasL q (vw now H) = !(cut now (samp q H)).isEmpty ∧ Sr.smpL q (vw now H) = cut now (samp q H) := by
 unfold samp
 cases hf : Hy.findL q H with
 | none =>
  have hn := find_no hf
  have := look_no (L := vw now H) (q := q) (fun y hy => by
   obtain ⟨x, hx, rfl, _⟩ := (mem_adv h.so y).1 hy
   exact hn x hx)
  rw [this.1, this.2]
  exact ⟨rfl, rfl⟩
 | some j =>
  obtain ⟨hj, e, ed⟩ := find_one hf
  dsimp only
  rw [ed]
  by_cases hc : cut now H[j].2 = []
  ·
   have := look_no (L := vw now H) (q := q) (fun y hy e2 => by
    obtain ⟨x, hx, rfl, hxc⟩ := (mem_adv h.so y).1 hy
    have := sl_uniq h.st hx (List.getElem_mem hj) (e2.trans e.symm)
    rw [this] at hxc
    exact hxc hc)
   rw [this.1, this.2, hc]
   exact ⟨rfl, rfl⟩
  ·
   have := look_mem (adv_sl (now := now) h.so h.st) (q := q) (l := cut now H[j].2) ((mem_adv h.so _).2 ⟨H[j], List.getElem_mem hj, by rw [e], hc⟩)
   rw [this.2.2.1, this.2.2.2]
   refine ⟨?_, rfl⟩
   cases hq : cut now H[j].2 with
   | nil => exact absurd hq hc
   | cons a r => rfl
theorem vw_len {now : Int} {H : HL} (h : PH now H) : (vw now H).length = Hy.liveL now H := by
 rw [adv_eq now h.so, ← List.countP_eq_length_filter, List.countP_map]
 unfold Hy.liveL
 refine List.countP_congr fun x hx => ?_
 have := cut_iff (now := now) (h.ne x hx) (h.so x hx)
 show (!(cut now x.2).isEmpty) = true ↔ decide (now - 100 < (Rn.lst x.2).1) = true
 rw [decide_eq_true_eq, ← this]
 cases cut now x.2 <;> simp
theorem vw_vw {a b : Int} {H : HL} (h : PH a H) (hab : a ≤ b) : vw b (vw a H) = vw b H := by
 have hri : ∀ x ∈ vw a H, Ri x.2 := fun x hx => by
  obtain ⟨z, hz, rfl, _⟩ := (mem_adv h.so x).1 hx
  exact cut_ri (h.so z hz)
 refine srt_ext _ _ (adv_sl hri (adv_sl h.so h.st)) (adv_sl h.so h.st) fun y => ?_
 rw [mem_adv hri, mem_adv h.so]
 constructor
 ·
  rintro ⟨x, hx, rfl, hc⟩
  obtain ⟨z, hz, rfl, _⟩ := (mem_adv h.so x).1 hx
  dsimp only at *
  rw [cut_cut hab] at *
  exact ⟨z, hz, rfl, hc⟩
 ·
  rintro ⟨z, hz, rfl, hc⟩
  refine ⟨(z.1, cut a z.2), (mem_adv h.so _).2 ⟨z, hz, rfl, fun e => hc ?_⟩, ?_, ?_⟩
  ·
   rw [← cut_cut hab, e]
   rfl
  ·
   dsimp only
   rw [cut_cut hab]
  ·
   dsimp only
   rw [cut_cut hab]
   exact hc
end Go.Proofs.YtjgckfcocmhnhaaGreatDoor.Sp
namespace Go.Proofs.YtjgckfcocmhnhaaGreatDoor.Sp
open Go.RowKit
theorem pos_eq (q : List Lb.Pr) (H : HL) : Hy.posL q H = Sr.posL q H := rfl
theorem mem_set {L : HL} (h : SL L) {j : Nat} (hj : j < L.length) {z : List Lb.Pr × List Smp} (y : List Lb.Pr × List Smp) : y ∈ L.set j z ↔ y = z ∨ (y ∈ L ∧ y.1 ≠ L[j].1) := by
 constructor
 ·
  intro hy
  obtain ⟨i, hi, e⟩ := List.getElem_of_mem hy
  rw [List.length_set] at hi
  rw [List.getElem_set] at e
  by_cases hij : j = i
  ·
   rw [if_pos hij] at e
   exact Or.inl e.symm
  ·
   rw [if_neg hij] at e
   refine Or.inr ⟨e ▸ List.getElem_mem hi, fun e2 => ?_⟩
   rw [← e] at e2
   rcases Nat.lt_or_ge i j with hlt | hge
   ·
    have := List.pairwise_iff_getElem.1 h i j hi hj hlt
    rw [e2, cmp_self] at this
    omega
   ·
    have := List.pairwise_iff_getElem.1 h j i hj hi (by omega)
    rw [e2, cmp_self] at this
    omega
 ·
  rintro (rfl | ⟨hy, hne⟩)
  ·
   exact List.mem_iff_getElem.2 ⟨j, by rw [List.length_set]; exact hj, by rw [List.getElem_set, if_pos rfl]⟩
  ·
   obtain ⟨i, hi, e⟩ := List.getElem_of_mem hy
   refine List.mem_iff_getElem.2 ⟨i, by rw [List.length_set]; exact hi, ?_⟩
   rw [List.getElem_set, if_neg]
   ·
    exact e
   ·
    intro e2
    subst e2
    exact hne (by rw [e])
theorem mem_ins {L : HL} {p : Nat} {z : List Lb.Pr × List Smp} (y : List Lb.Pr × List Smp) : y ∈ L.take p ++ z :: L.drop p ↔ y = z ∨ y ∈ L := by
 rw [List.mem_append, List.mem_cons]
 constructor
 ·
  rintro (h | h | h)
  ·
   exact Or.inr (List.mem_of_mem_take h)
  ·
   exact Or.inl h
  ·
   exact Or.inr (List.mem_of_mem_drop h)
 ·
  rintro (h | h)
  ·
   exact Or.inr (Or.inl h)
  ·
   rw [← List.take_append_drop p L, List.mem_append] at h
   rcases h with h | h
   ·
    exact Or.inl h
   ·
    exact Or.inr (Or.inr h)
theorem sl_set {L : HL} (h : SL L) {j : Nat} (hj : j < L.length) {z : List Lb.Pr × List Smp} (e : z.1 = L[j].1) : SL (L.set j z) := by
 refine List.pairwise_iff_getElem.2 fun a b ha hb hab => ?_
 rw [List.length_set] at ha hb
 rw [List.getElem_set, List.getElem_set]
 have := List.pairwise_iff_getElem.1 h a b ha hb hab
 split <;> split
 ·
  omega
 ·
  rename_i e1 e2; subst e1; rw [e]; exact this
 ·
  rename_i e1 e2; subst e2; rw [e]; exact this
 ·
  exact this
theorem sl_ins {L : HL} (h : SL L) {q : List Lb.Pr} {z : List Lb.Pr × List Smp} (e : z.1 = q) (hn : ∀ x ∈ L, x.1 ≠ q) : SL (L.take (Sr.posL q L) ++ z :: L.drop (Sr.posL q L)) := by
 have hlt : ∀ a ∈ L.take (Sr.posL q L), Lb.fCmp a.1 q < 0 := by
  intro a ha
  obtain ⟨i, hi, e⟩ := List.getElem_of_mem ha
  rw [List.length_take] at hi
  have := Hy.pos_lt (q := q) (L := L) (i := i) (by rw [pos_eq]; omega)
  rw [List.getElem_take] at e
  rw [List.getD_eq_getElem?_getD, List.getElem?_eq_getElem (by omega), Option.getD_some, e] at this
  exact this
 have hgt : ∀ b ∈ L.drop (Sr.posL q L), Lb.fCmp q b.1 < 0 := by
  intro b hb
  obtain ⟨i, hi, e⟩ := List.getElem_of_mem hb
  rw [List.length_drop] at hi
  have hp : Sr.posL q L < L.length := by omega
  have h1 := Hy.pos_ge (q := q) (L := L) hp
  rw [pos_eq, List.getD_eq_getElem?_getD, List.getElem?_eq_getElem hp, Option.getD_some] at h1
  have h2 : Lb.fCmp (L[Sr.posL q L]).1 q ≠ 0 := fun e2 => hn _ (List.getElem_mem hp) ((Lb.fCmp_zero _ _).1 e2)
  have h3 : Lb.fCmp q (L[Sr.posL q L]).1 = -1 := by
   rw [Lb.fCmp_neg]
   rcases Lb.fCmp_cases (L[Sr.posL q L]).1 q with h | h | h <;> omega
  rw [List.getElem_drop] at e
  rw [← e]
  rcases Nat.eq_zero_or_pos i with h0 | h0
  ·
   subst h0
   show Lb.fCmp q (L[Sr.posL q L]).1 < 0
   omega
  ·
   have h4 := List.pairwise_iff_getElem.1 h (Sr.posL q L) (Sr.posL q L + i) hp (by omega) (by omega)
   have := Lb.fCmp_trans h3 (Sr.neg_one h4)
   omega
 unfold SL
 rw [List.pairwise_append, List.pairwise_cons]
 refine ⟨h.sublist (List.take_sublist _ _), ⟨fun x hx => by rw [e]; exact hgt x hx, h.sublist (List.drop_sublist _ _)⟩, fun a ha b hb => ?_⟩
 rcases List.mem_cons.1 hb with rfl | hb
 ·
  rw [e]; exact hlt a ha
 ·
  have := Lb.fCmp_trans (Sr.neg_one (hlt a ha)) (Sr.neg_one (hgt b hb))
  omega
theorem addE_eq {now : Int} {H : HL} (h : PH now H) (q : List Lb.Pr) (t : Int) : Sr.addEL now (vw now H) q t = Hy.addE now H q t := by
 unfold Sr.addEL Hy.addE
 rw [(look_vw h q).1, (look_vw h q).2, vw_len h]
 by_cases h1 : Lb.fIs q = false
 ·
  rw [if_pos h1, if_pos h1]
 rw [if_neg h1, if_neg h1]
 have e0 : ∀ l, Rn.adE l 100 now t = if t < 0 ∨ now < t ∨ t ≤ now - 100 then 152 else if l ≠ [] ∧ t ≤ (Rn.lst l).1 then 150 else 0 := fun _ => rfl
 rw [e0, e0]
 by_cases h2 : t < 0 ∨ now < t ∨ t ≤ now - 100
 ·
  simp only [if_pos h2]
  generalize (!(cut now (samp q H)).isEmpty) = z
  cases z <;> rfl
 simp only [if_neg h2]
 unfold samp
 cases hf : Hy.findL q H with
 | none => rfl
 | some j =>
  obtain ⟨hj, e, ed⟩ := find_one hf
  simp only [ed]
  have hm := List.getElem_mem hj
  have hi := cut_iff (now := now) (h.ne _ hm) (h.so _ hm)
  show _ = if now - 100 < (Rn.lst H[j].2).1 then (if t ≤ (Rn.lst H[j].2).1 then (150 : Int) else 0) else _
  by_cases hc : cut now H[j].2 = []
  ·
   rw [if_neg (c := now - 100 < _) (fun hx => hi.2 hx hc), hc]
   rfl
  ·
   have hl := lst_cut hc (h.so _ hm)
   rw [if_pos (c := now - 100 < _) hl.1, if_pos, hl.2]
   ·
    by_cases h3 : t ≤ (Rn.lst H[j].2).1
    ·
     rw [if_pos ⟨hc, h3⟩, if_pos h3]
    ·
     rw [if_neg (fun x => h3 x.2), if_neg h3]
   ·
    cases hx : cut now H[j].2 with
    | nil => exact absurd hx hc
    | cons a r => rfl
theorem adE_time {now t : Int} {H : HL} {q : List Lb.Pr} (h : Hy.addE now H q t = 0) : Lb.fIs q = true ∧ 0 ≤ t ∧ t ≤ now ∧ now - 100 < t := by
 unfold Hy.addE at h
 by_cases h1 : Lb.fIs q = false
 ·
  rw [if_pos h1] at h; cases h
 rw [if_neg h1] at h
 by_cases h2 : t < 0 ∨ now < t ∨ t ≤ now - 100
 ·
  rw [if_pos h2] at h; cases h
 exact ⟨by simpa using h1, by omega, by omega, by omega⟩
theorem adE_last {now t : Int} {H : HL} {q : List Lb.Pr} {j : Nat} (h : Hy.addE now H q t = 0) (hf : Hy.findL q H = some j) : (Rn.lst (H.getD j Hy.d0).2).1 < t := by
 have ht := adE_time h
 unfold Hy.addE at h
 rw [if_neg (by rw [ht.1]; decide), if_neg (by omega), hf] at h
 dsimp only at h
 show (Hy.lst (H.getD j Hy.d0).2).1 < t
 by_cases h3 : now - 100 < (Hy.lst (H.getD j Hy.d0).2).1
 ·
  rw [if_pos h3] at h
  by_cases h4 : t ≤ (Hy.lst (H.getD j Hy.d0).2).1
  ·
   rw [if_pos h4] at h; cases h
  ·
   omega
 ·
  omega
theorem cut_snoc {now : Int} (l : List Smp) {s : Smp} (h : now - 100 < s.1) : cut now (l ++ [s]) = cut now l ++ [s] := by
 unfold cut
 rw [List.filter_append, List.filter_cons_of_pos (by simpa using h), List.filter_nil]
theorem ri_snoc {l : List Smp} {s : Smp} (h : Ri l) (hl : (Rn.lst l).1 < s.1) : Ri (l ++ [s]) := by
 unfold Ri
 rw [List.pairwise_append]
 refine ⟨h, List.pairwise_singleton _ _, fun a ha b hb => ?_⟩
 rw [List.mem_singleton.1 hb]
 have := Rn.lst_last h a ha
 omega
theorem nrm_nrm (s : Smp) (h : R64 s.2.2) : Rn.nrm (Rn.nrm s) = Rn.nrm s := by
 unfold Rn.nrm
 have e : cnt (ov (cnt s.2.1 s.2.2)) (nn (cnt s.2.1 s.2.2)) = cnt s.2.1 s.2.2 := cnt_val (V.cnt h.1 h.2)
 dsimp only
 rw [e]
theorem PH.add {now : Int} {H : HL} (h : PH now H) (q : List Lb.Pr) (s : Smp) (hr : R64 s.2.2) : PH now (Hy.addL now H q s) := by
 unfold Hy.addL
 by_cases he : Hy.addE now H q s.1 ≠ 0
 ·
  rw [if_pos he]; exact h
 rw [if_neg he]
 have he0 : Hy.addE now H q s.1 = 0 := by simpa using he
 have ht := adE_time he0
 have hn : Rn.nrm (Rn.nrm s) = Rn.nrm s ∧ R64 (Rn.nrm s).2.2 := ⟨nrm_nrm s hr, Rn.nrm_r64 s hr⟩
 cases hf : Hy.findL q H with
 | some j =>
  obtain ⟨hj, e, ed⟩ := find_one hf
  have hl := adE_last he0 hf
  dsimp only
  rw [ed] at hl ⊢
  have hm := List.getElem_mem hj
  have hmem : ∀ x, x ∈ H.set j (H[j].1, H[j].2 ++ [Hy.adN s]) → x = (H[j].1, H[j].2 ++ [Rn.nrm s]) ∨ x ∈ H := fun x hx => by
   rcases (mem_set h.st hj x).1 hx with e | ⟨e, _⟩
   ·
    exact Or.inl e
   ·
    exact Or.inr e
  refine ⟨fun x hx => ?_, fun x hx => ?_, fun x hx y hy => ?_, fun x hx y hy => ?_, sl_set h.st hj rfl, fun x hx => ?_⟩
  ·
   rcases hmem x hx with rfl | hx
   ·
    exact ri_snoc (h.so _ hm) hl
   ·
    exact h.so x hx
  ·
   rcases hmem x hx with rfl | hx
   ·
    simp
   ·
    exact h.ne x hx
  ·
   rcases hmem x hx with rfl | hx
   ·
    rcases List.mem_append.1 hy with hy | hy
    ·
     exact h.at_ _ hm y hy
    ·
     rw [List.mem_singleton.1 hy]; exact ⟨ht.2.1, ht.2.2.1⟩
   ·
    exact h.at_ x hx y hy
  ·
   rcases hmem x hx with rfl | hx
   ·
    rcases List.mem_append.1 hy with hy | hy
    ·
     exact h.nr _ hm y hy
    ·
     rw [List.mem_singleton.1 hy]; exact hn
   ·
    exact h.nr x hx y hy
  ·
   rcases hmem x hx with rfl | hx
   ·
    exact (show Lb.fIs H[j].1 = true from h.is _ hm)
   ·
    exact h.is x hx
 | none =>
  have hno := find_no hf
  have hmem : ∀ x, x ∈ H.take (Hy.posL q H) ++ (q, [Hy.adN s]) :: H.drop (Hy.posL q H) → x = (q, [Rn.nrm s]) ∨ x ∈ H := fun x hx => (mem_ins x).1 hx
  refine ⟨fun x hx => ?_, fun x hx => ?_, fun x hx y hy => ?_, fun x hx y hy => ?_, sl_ins h.st rfl hno, fun x hx => ?_⟩
  ·
   rcases hmem x hx with rfl | hx
   ·
    exact List.pairwise_singleton _ _
   ·
    exact h.so x hx
  ·
   rcases hmem x hx with rfl | hx
   ·
    simp
   ·
    exact h.ne x hx
  ·
   rcases hmem x hx with rfl | hx
   ·
    rw [List.mem_singleton.1 hy]; exact ⟨ht.2.1, ht.2.2.1⟩
   ·
    exact h.at_ x hx y hy
  ·
   rcases hmem x hx with rfl | hx
   ·
    rw [List.mem_singleton.1 hy]; exact hn
   ·
    exact h.nr x hx y hy
  ·
   rcases hmem x hx with rfl | hx
   ·
    exact ht.1
   ·
    exact h.is x hx
theorem vw_add {now : Int} {H : HL} (h : PH now H) (q : List Lb.Pr) (s : Smp) (hr : R64 s.2.2) : vw now (Hy.addL now H q s) = Sr.addLL now (vw now H) q s := by
 have hp := h.add q s hr
 unfold Sr.addLL
 rw [addE_eq h, (look_vw h q).1, (look_vw h q).2]
 by_cases he : Hy.addE now H q s.1 ≠ 0
 ·
  rw [if_pos he]
  unfold Hy.addL
  rw [if_pos he]
 rw [if_neg he]
 have he0 : Hy.addE now H q s.1 = 0 := by simpa using he
 have ht := adE_time he0
 have hnt : now - 100 < (Rn.nrm s).1 := ht.2.2.2
 have hsl := adv_sl (now := now) h.so h.st
 have hno : cut now (samp q H) = [] → ∀ x ∈ vw now H, x.1 ≠ q := fun hc x hx e => by
  have hx' : (q, x.2) ∈ vw now H := by rw [← e]; exact hx
  have h1 := (look_mem hsl hx').2.2.1
  rw [(look_vw h q).1, hc] at h1
  cases h1
 have key : ∀ y, y ∈ vw now (Hy.addL now H q s) ↔ y = (q, cut now (samp q H) ++ [Rn.nrm s]) ∨ (y ∈ vw now H ∧ y.1 ≠ q) := by
  intro y
  rw [mem_adv hp.so, mem_adv h.so]
  unfold Hy.addL samp
  rw [if_neg he]
  cases hf : Hy.findL q H with
  | some j =>
   obtain ⟨hj, e, ed⟩ := find_one hf
   dsimp only
   rw [ed]
   constructor
   ·
    rintro ⟨x, hx, rfl, hc⟩
    rcases (mem_set h.st hj x).1 hx with rfl | ⟨hx, hne⟩
    ·
     refine Or.inl ?_
     show (H[j].1, cut now (H[j].2 ++ [Rn.nrm s])) = _
     rw [e, cut_snoc _ hnt]
    ·
     exact Or.inr ⟨⟨x, hx, rfl, hc⟩, fun e2 => hne (e2.trans e.symm)⟩
   ·
    rintro (rfl | ⟨⟨x, hx, rfl, hc⟩, hne⟩)
    ·
     refine ⟨(H[j].1, H[j].2 ++ [Hy.adN s]), (mem_set h.st hj _).2 (Or.inl rfl), ?_, ?_⟩
     ·
      dsimp only
      rw [e]
      show _ = (q, cut now (H[j].2 ++ [Rn.nrm s]))
      rw [cut_snoc _ hnt]
     ·
      show cut now (H[j].2 ++ [Rn.nrm s]) ≠ []
      rw [cut_snoc _ hnt]
      simp
    ·
     exact ⟨x, (mem_set h.st hj _).2 (Or.inr ⟨hx, fun e2 => hne (e2.trans e)⟩), rfl, hc⟩
  | none =>
   have hn := find_no hf
   constructor
   ·
    rintro ⟨x, hx, rfl, hc⟩
    rcases (mem_ins x).1 hx with rfl | hx
    ·
     refine Or.inl ?_
     show (q, cut now ([] ++ [Rn.nrm s])) = _
     rw [cut_snoc _ hnt]
    ·
     exact Or.inr ⟨⟨x, hx, rfl, hc⟩, hn x hx⟩
   ·
    rintro (rfl | ⟨⟨x, hx, rfl, hc⟩, hne⟩)
    ·
     refine ⟨(q, [Hy.adN s]), (mem_ins _).2 (Or.inl rfl), ?_, ?_⟩
     ·
      show _ = (q, cut now ([] ++ [Rn.nrm s]))
      rw [cut_snoc _ hnt]
     ·
      show cut now ([] ++ [Rn.nrm s]) ≠ []
      rw [cut_snoc _ hnt]
      simp
    ·
     exact ⟨x, (mem_ins _).2 (Or.inr hx), rfl, hc⟩
 by_cases hc : cut now (samp q H) = []
 ·
  rw [if_neg (by rw [hc]; decide)]
  refine srt_ext _ _ (adv_sl hp.so hp.st) (sl_ins hsl rfl (hno hc)) fun y => ?_
  rw [key, mem_ins, hc]
  constructor
  ·
   rintro (e | e)
   ·
    exact Or.inl e
   ·
    exact Or.inr e.1
  ·
   rintro (e | e)
   ·
    exact Or.inl e
   ·
    exact Or.inr ⟨e, hno hc y e⟩
 ·
  have hi : (!(cut now (samp q H)).isEmpty) = true := by
   cases hx : cut now (samp q H) with
   | nil => exact absurd hx hc
   | cons a r => rfl
  rw [if_pos hi]
  have hh := (look_vw h q).1.trans hi
  have hlt : Sr.posL q (vw now H) < (vw now H).length := by
   unfold Sr.hasL at hh
   rw [Bool.and_eq_true, decide_eq_true_eq] at hh
   exact hh.1
  have hq : (vw now H)[Sr.posL q (vw now H)].1 = q := by
   unfold Sr.hasL at hh
   rw [Bool.and_eq_true, decide_eq_true_eq, decide_eq_true_eq, Lb.fCmp_zero, List.getD_eq_getElem?_getD, List.getElem?_eq_getElem hlt] at hh
   exact hh.2
  refine srt_ext _ _ (adv_sl hp.so hp.st) (sl_set hsl hlt hq.symm) fun y => ?_
  rw [key, mem_set hsl hlt, hq]
theorem bet_cut {now k : Int} {l : List Smp} (h : ∀ s ∈ l, s.1 ≤ now) (hk : k ≤ 100) : Hy.bet (now - k) now l = (cut now l).filter fun s => decide (now - k < s.1) := by
 unfold Hy.bet cut
 rw [List.filter_filter]
 refine List.filter_congr fun x hx => ?_
 have := h x hx
 rw [Bool.eq_iff_iff]
 simp only [Bool.and_eq_true, decide_eq_true_eq]
 omega
theorem samp_ok {now : Int} {H : HL} (h : PH now H) (q : List Lb.Pr) : Ri (samp q H) ∧ ∀ s ∈ samp q H, (0 ≤ s.1 ∧ s.1 ≤ now) ∧ Rn.nrm s = s ∧ R64 s.2.2 := by
 unfold samp
 cases hf : Hy.findL q H with
 | none => exact ⟨List.Pairwise.nil, (by intro s hs; cases hs)⟩
 | some j =>
  obtain ⟨hj, e, ed⟩ := find_one hf
  dsimp only
  rw [ed]
  have hm := List.getElem_mem hj
  exact ⟨h.so _ hm, fun s hs => ⟨h.at_ _ hm s hs, h.nr _ hm s hs⟩⟩
/-- A window of a store's series is the history's. -/
theorem win_eq {now k : Int} {H : HL} (h : PH now H) (q : List Lb.Pr) (hk : k ≤ 100) : Sr.addAll k now [] (Sr.smpL q (vw now H)) = Hy.bet (now - k) now (samp q H) := by
 obtain ⟨h1, h2⟩ := samp_ok h q
 rw [(look_vw h q).2, bet_cut (fun s hs => (h2 s hs).1.2) hk, addAll_eq k now _ _ (cut_ri h1) (fun s hs => ?_) (by simp), List.nil_append]
 have := h2 s (List.mem_filter.1 hs).1
 exact ⟨this.1.1, this.1.2, this.2.1⟩
theorem sets_eq {now : Int} {H : HL} (h : PH now H) (m : List Lb.Mat) : Sr.setsL m (vw now H) = (H.filter fun x => !(Hy.bet (now - 100) now x.2).isEmpty && Lb.fAll x.1 m).map (·.1) := by
 unfold Sr.setsL
 rw [adv_eq now h.so, List.filter_filter, List.filter_map, List.map_map]
 have : (H.filter ((fun x : List Lb.Pr × List Smp => Lb.fAll x.1 m && !x.2.isEmpty) ∘ fun x => (x.1, cut now x.2))) = H.filter fun x => !(Hy.bet (now - 100) now x.2).isEmpty && Lb.fAll x.1 m := by
  refine List.filter_congr fun x hx => ?_
  have e : Hy.bet (now - 100) now x.2 = cut now x.2 := by
   rw [bet_cut (fun s hs => (h.at_ x hx s hs).2) (Int.le_refl _)]
   unfold cut
   rw [List.filter_filter]
   exact List.filter_congr fun y _ => by rw [Bool.and_self]
  rw [e]
  exact Bool.and_comm _ _
 rw [this]
 rfl
end Go.Proofs.YtjgckfcocmhnhaaGreatDoor.Sp
namespace Go.Proofs.YtjgckfcocmhnhaaGreatDoor.Sp
open Go.RowKit
theorem ky_inj {x y : Option Int} (hx : V x) (hy : V y) (h : Ex.ky x = Ex.ky y) : x = y := by
 have h1 := hx.2
 have h2 := hy.2
 cases x with
 | none =>
  cases y with
  | none => rfl
  | some b =>
   exfalso
   have : (18446744073709551616 : Int) = b := h
   have : b ≤ 9223372036854775807 := h2
   omega
 | some a =>
  cases y with
  | none =>
   exfalso
   have : a = (18446744073709551616 : Int) := h
   have : a ≤ 9223372036854775807 := h1
   omega
  | some b => exact congrArg some h
theorem kg_cmp (g : Bool) (x p : Bool × Int) (hx : R64 x.2) (hp : R64 p.2) :
  (if g = true then decide (0 < fCmp (cnt x.1 x.2) (cnt p.1 p.2)) else decide (fCmp (cnt x.1 x.2) (cnt p.1 p.2) < 0)) = decide (Ex.kg g (0, p) < Ex.kg g (0, x)) := by
 have h := Ex.cmp_ky (V.cnt (o := x.1) hx.1 hx.2) (V.cnt (o := p.1) hp.1 hp.2)
 cases g with
 | true =>
  rw [if_pos rfl]
  refine decide_eq_decide.2 ?_
  show _ ↔ Ex.ky (cnt p.1 p.2) < Ex.ky (cnt x.1 x.2)
  have := h.1
  omega
 | false =>
  rw [if_neg (by decide)]
  refine decide_eq_decide.2 ?_
  show _ ↔ - Ex.ky (cnt p.1 p.2) < - Ex.ky (cnt x.1 x.2)
  have := h.2
  omega
theorem exQ_best (g : Bool) (l : List (Bool × Int)) (h : ∀ x ∈ l, R64 x.2) : ∀ p, p < l.length → Hy.exQ g l p ∈ l ∧ ∀ j, j ≤ p → Ex.kg g (0, l.getD j (false, 0)) ≤ Ex.kg g (0, Hy.exQ g l p)
 | 0, hp => ⟨Hy.getD_memM hp, fun j hj => by
   obtain rfl : j = 0 := by omega
   exact Int.le_refl _⟩
 | p + 1, hp => by
  obtain ⟨h1, h2⟩ := exQ_best g l h p (by omega)
  have hm := Hy.getD_memM (l := l) hp
  have e : Hy.exQ g l (p + 1) = if Ex.kg g (0, Hy.exQ g l p) < Ex.kg g (0, l.getD (p + 1) (false, 0)) then l.getD (p + 1) (false, 0) else Hy.exQ g l p := by
   show Hy.exS g (Hy.exQ g l p) (l.getD (p + 1) (false, 0)) = _
   unfold Hy.exS
   rw [kg_cmp g _ _ (h _ hm) (h _ h1)]
   by_cases hlt : Ex.kg g (0, Hy.exQ g l p) < Ex.kg g (0, l.getD (p + 1) (false, 0))
   ·
    rw [if_pos hlt, if_pos (by simpa using hlt)]
   ·
    rw [if_neg hlt, if_neg (by simpa using hlt)]
  rw [e]
  by_cases hlt : Ex.kg g (0, Hy.exQ g l p) < Ex.kg g (0, l.getD (p + 1) (false, 0))
  ·
   rw [if_pos hlt]
   refine ⟨hm, fun j hj => ?_⟩
   rcases Nat.lt_or_ge p j with hj2 | hj2
   ·
    obtain rfl : j = p + 1 := by omega
    exact Int.le_refl _
   ·
    have := h2 j hj2
    omega
  ·
   rw [if_neg hlt]
   refine ⟨h1, fun j hj => ?_⟩
   rcases Nat.lt_or_ge p j with hj2 | hj2
   ·
    obtain rfl : j = p + 1 := by omega
    omega
   ·
    exact h2 j hj2
theorem nv_of {s : Smp} (h : Rn.nrm s = s) : Hy.nv s = s.2 := congrArg Prod.snd h
/-- The document's own greatest, or least, is the one that is told. -/
theorem ext_eq (g : Bool) (l : List Smp) (hn : l ≠ []) (h3 : ∀ s ∈ l, Rn.nrm s = s) (hr : ∀ s ∈ l, R64 s.2.2) : (ov (Hy.exP g (l.map Hy.nv)), nn (Hy.exP g (l.map Hy.nv))) = (Ex.bst g l).2 := by
 have hlen : (l.map Hy.nv).length = l.length := List.length_map _
 have hpos := List.length_pos_iff.2 hn
 have hrm : ∀ x ∈ l.map Hy.nv, R64 x.2 := fun x hx => by
  obtain ⟨s, hs, rfl⟩ := List.mem_map.1 hx
  exact Hy.nv_r64 s (hr s hs)
 obtain ⟨hp, hq⟩ := exQ_best g (l.map Hy.nv) hrm ((l.map Hy.nv).length - 1) (by omega)
 have hm : ∀ x ∈ l.map Hy.nv, Ex.kg g (0, x) ≤ Ex.kg g (0, Hy.exQ g (l.map Hy.nv) ((l.map Hy.nv).length - 1)) := fun x hx => by
  obtain ⟨j, hj, e⟩ := List.getElem_of_mem hx
  have := hq j (by omega)
  rw [List.getD_eq_getElem?_getD, List.getElem?_eq_getElem hj, Option.getD_some, e] at this
  exact this
 unfold Hy.exP
 generalize Hy.exQ g (l.map Hy.nv) ((l.map Hy.nv).length - 1) = p at *
 obtain ⟨b1, b2⟩ := Ex.thn_best (Ex.kg g) l hn
 obtain ⟨s, hs, rfl⟩ := List.mem_map.1 hp
 have e1 := nv_of (h3 s hs)
 have e2 := h3 _ b1
 rw [e1] at hm ⊢
 have hb := hm _ (List.mem_map_of_mem (f := Hy.nv) b1)
 rw [nv_of e2] at hb
 have hs2 := b2 s hs
 have hb' : Ex.kg g (Ex.bst g l) ≤ Ex.kg g s := hb
 have hs' : Ex.kg g s ≤ Ex.kg g (Ex.bst g l) := hs2
 have hk : Ex.ky (cnt s.2.1 s.2.2) = Ex.ky (cnt (Ex.bst g l).2.1 (Ex.bst g l).2.2) := by
  unfold Ex.kg at hb' hs'
  cases g with
  | true => rw [if_pos rfl, if_pos rfl] at hb' hs'; omega
  | false => rw [if_neg (by decide), if_neg (by decide)] at hb' hs'; omega
 have hrs := hr s hs
 have hrb := hr _ b1
 have := ky_inj (V.cnt (o := s.2.1) hrs.1 hrs.2) (V.cnt (o := (Ex.bst g l).2.1) hrb.1 hrb.2) hk
 rw [this]
 exact congrArg Prod.snd e2
/-- The names that the law asks by. -/
def nmV : Nat → Value
 | 0 => .string ⟨#[115, 117, 109]⟩
 | 1 => .string ⟨#[97, 118, 103]⟩
 | 2 => .string ⟨#[109, 105, 110]⟩
 | 3 => .string ⟨#[109, 97, 120]⟩
 | 4 => .string ⟨#[99, 111, 117, 110, 116]⟩
 | 5 => .string ⟨#[108, 97, 115, 116]⟩
 | 6 => .string ⟨#[105, 110, 99, 114, 101, 97, 115, 101]⟩
 | 7 => .string ⟨#[114, 97, 116, 101]⟩
 | 8 => .string ⟨#[100, 101, 108, 116, 97]⟩
 | _ => .string ⟨#[119, 104, 97, 116]⟩
/-- What is told under each. -/
def oneT (l : List Smp) (x : Bool × Int) : Bool × Int × Bool := if l = [] then (false, 0, false) else (x.1, x.2, true)
def twoT (l : List Smp) (x : Option Int) : Bool × Int × Bool := if l.length < 2 then (false, 0, false) else (ov x, nn x, true)
def teT (l : List Smp) (k : Int) : Nat → Bool × Int × Bool
 | 0 => oneT l (ov (fSum (cnts (Rn.vls l))), nn (fSum (cnts (Rn.vls l))))
 | 1 => oneT l (ov (Rn.avgP l), nn (Rn.avgP l))
 | 2 => oneT l (Ex.bst false l).2
 | 3 => oneT l (Ex.bst true l).2
 | 4 => oneT l (ov (fOf l.length), nn (fOf l.length))
 | 5 => oneT l (Rn.lst l).2
 | 6 => twoT l (Rn.incP l)
 | 7 => twoT l (Sr.rteP l k)
 | 8 => twoT l (Rn.dltP l)
 | _ => (false, 0, false)
abbrev ansT (a : Bool × Int × Bool) : Value := .tuple #[.agg #[.bool a.1, .int .i64 a.2.1], .bool a.2.2]
theorem oneT_nil (x : Bool × Int) : oneT [] x = (false, 0, false) := rfl
theorem oneT_yes {l : List Smp} (h : l ≠ []) (x : Bool × Int) : oneT l x = (x.1, x.2, true) := if_neg h
theorem tell_i (rb : Nat) (l : List Smp) (k t : Int) (i : Nat) (w : World) (h : Rn.St w rb l k t) (h3 : ∀ s ∈ l, Rn.nrm s = s) :
  Calls Tryz.prog 55 #[Sr.pv rb k t, nmV i] w fun e w' => e = .returned (ansT (teT l k i)) ∧ Below w.heap.size w w' := by
 have hall : Sr.addAll k t [] l = l := by
  rw [addAll_eq k t l [] h.f.so (fun s hs => by have := h.f.at_ s hs; exact ⟨by omega, by omega, h3 s hs⟩) (by simp), List.nil_append]
  exact List.filter_eq_self.2 fun s hs => by have := h.f.at_ s hs; simpa using this.1
 have two : ∀ x : Option Int, twoT l x = if l.length < 2 then (false, 0, false) else (ov x, nn x, true) := fun _ => rfl
 match i with
 | 0 =>
  refine (Sr.tell_sum rb l k t w h).mono fun e w' ⟨h1, h2⟩ => ⟨h1.trans ?_, h2⟩
  cases l with
  | nil => rfl
  | cons a r => rfl
 | 1 =>
  refine (Sr.tell_avg rb l k t w h).mono fun e w' ⟨h1, h2⟩ => ⟨h1.trans ?_, h2⟩
  cases l with
  | nil => rfl
  | cons a r => rfl
 | 2 =>
  refine (Sr.tell_min rb l k t w h).mono fun e w' ⟨h1, h2⟩ => ⟨h1.trans ?_, h2⟩
  rw [hall]
  cases l with
  | nil => rfl
  | cons a r => rfl
 | 3 =>
  refine (Sr.tell_max rb l k t w h).mono fun e w' ⟨h1, h2⟩ => ⟨h1.trans ?_, h2⟩
  rw [hall]
  cases l with
  | nil => rfl
  | cons a r => rfl
 | 4 =>
  refine (Sr.tell_count rb l k t w h).mono fun e w' ⟨h1, h2⟩ => ⟨h1.trans ?_, h2⟩
  cases l with
  | nil => rfl
  | cons a r =>
   rw [show teT (a :: r) k 4 = oneT (a :: r) (ov (fOf (a :: r).length), nn (fOf (a :: r).length)) from rfl, oneT_yes (by simp)]
   simp
 | 5 =>
  refine (Sr.tell_last rb l k t w h).mono fun e w' ⟨h1, h2⟩ => ⟨h1.trans ?_, h2⟩
  cases l with
  | nil => rfl
  | cons a r => rfl
 | 6 =>
  refine (Sr.tell_increase rb l k t w h).mono fun e w' ⟨h1, h2⟩ => ⟨h1.trans ?_, h2⟩
  rfl
 | 7 =>
  refine (Sr.tell_rate rb l k t w h).mono fun e w' ⟨h1, h2⟩ => ⟨h1.trans ?_, h2⟩
  rfl
 | 8 =>
  refine (Sr.tell_delta rb l k t w h).mono fun e w' ⟨h1, h2⟩ => ⟨h1.trans ?_, h2⟩
  rfl
 | _ + 9 => exact Sr.tell_what rb l k t w h
theorem over_i (ao : Option Addr) (n cap : Nat) (l : List Smp) (k : Int) (i : Nat) (w : World) (hn : n ≤ 100) (hs : Hy.Ms w ao n l) (hr : ∀ s ∈ l, R64 s.2.2) (h3 : ∀ s ∈ l, Rn.nrm s = s) (hk : R64 k) :
  Calls Tryz.prog 50 #[.slice ao n cap, nmV i, .int .i64 k] w fun e w' => e = .returned (ansT (teT l k i)) ∧ Below w.heap.size w w' := by
 have hl : l.length = n := hs.1
 have one : ∀ x : Bool × Int, (if n = 0 then (Value.tuple #[.agg #[.bool false, .int .i64 0], .bool false]) else .tuple #[.agg #[.bool x.1, .int .i64 x.2], .bool true]) = ansT (oneT l x) := fun x => by
  unfold oneT
  by_cases h0 : n = 0
  ·
   rw [if_pos h0, if_pos (List.length_eq_zero_iff.1 (by omega))]
  ·
   rw [if_neg h0, if_neg (fun e => h0 (by rw [← hl, e]; rfl))]
 have two : ∀ x : Option Int, (if n < 2 then (Value.tuple #[.agg #[.bool false, .int .i64 0], .bool false]) else .tuple #[.agg #[.bool (ov x), .int .i64 (nn x)], .bool true]) = ansT (twoT l x) := fun x => by
  unfold twoT
  rw [hl]
  by_cases h0 : n < 2
  ·
   rw [if_pos h0, if_pos h0]
  ·
   rw [if_neg h0, if_neg h0]
 match i with
 | 0 => exact (Hy.over_sum ao n cap l k w hn hs hr).mono fun e w' ⟨h1, h2⟩ => ⟨h1.trans (congrArg _ (one (ov (fSum (cnts (Rn.vls l))), nn (fSum (cnts (Rn.vls l)))))), h2⟩
 | 1 => exact (Hy.over_avg ao n cap l k w hn hs hr).mono fun e w' ⟨h1, h2⟩ => ⟨h1.trans (congrArg _ (one (ov (Rn.avgP l), nn (Rn.avgP l)))), h2⟩
 | 2 =>
  refine (Hy.over_min ao n cap l k w hn hs hr).mono fun e w' ⟨h1, h2⟩ => ⟨h1.trans (congrArg _ ((one (ov (Hy.exP false (l.map Hy.nv)), nn (Hy.exP false (l.map Hy.nv)))).trans ?_)), h2⟩
  show _ = ansT (oneT l (Ex.bst false l).2)
  by_cases h0 : l = []
  ·
   rw [h0, oneT_nil, oneT_nil]
  ·
   rw [ext_eq false l h0 h3 hr]
 | 3 =>
  refine (Hy.over_max ao n cap l k w hn hs hr).mono fun e w' ⟨h1, h2⟩ => ⟨h1.trans (congrArg _ ((one (ov (Hy.exP true (l.map Hy.nv)), nn (Hy.exP true (l.map Hy.nv)))).trans ?_)), h2⟩
  show _ = ansT (oneT l (Ex.bst true l).2)
  by_cases h0 : l = []
  ·
   rw [h0, oneT_nil, oneT_nil]
  ·
   rw [ext_eq true l h0 h3 hr]
 | 4 => exact (Hy.over_count ao n cap l k w hn hs hr).mono fun e w' ⟨h1, h2⟩ => ⟨h1.trans (congrArg _ (one (ov (fOf l.length), nn (fOf l.length)))), h2⟩
 | 5 =>
  refine (Hy.over_last ao n cap l k w hn hs hr).mono fun e w' ⟨h1, h2⟩ => ⟨h1.trans (congrArg _ ((one (ov (cnt (Rn.lst l).2.1 (Rn.lst l).2.2), nn (cnt (Rn.lst l).2.1 (Rn.lst l).2.2))).trans ?_)), h2⟩
  show _ = ansT (oneT l (Rn.lst l).2)
  by_cases h0 : l = []
  ·
   rw [h0, oneT_nil, oneT_nil]
  ·
   have := nv_of (h3 _ (Rn.lst_mem h0))
   show ansT (oneT l (Hy.nv (Rn.lst l))) = _
   rw [this]
 | 6 => exact (Hy.over_increase ao n cap l k w hn hs hr).mono fun e w' ⟨h1, h2⟩ => ⟨h1.trans (congrArg _ (two _)), h2⟩
 | 7 => exact (Hy.over_rate ao n cap l k w hn hs hr hk).mono fun e w' ⟨h1, h2⟩ => ⟨h1.trans (congrArg _ (two _)), h2⟩
 | 8 => exact (Hy.over_delta ao n cap l k w hn hs hr).mono fun e w' ⟨h1, h2⟩ => ⟨h1.trans (congrArg _ (two _)), h2⟩
 | _ + 9 => exact Hy.over_what ao n cap l k w hn hs hr
end Go.Proofs.YtjgckfcocmhnhaaGreatDoor.Sp
namespace Go.Proofs.YtjgckfcocmhnhaaGreatDoor.Sp
open Go.RowKit
theorem gfH {w w' : World} {F : Nat → Prop} (h : Sr.Gf w w' F) : Hy.Gf w w' F := ⟨h.os, h.tape, h.output, h.size, h.block⟩
theorem gfS {w w' : World} {F : Nat → Prop} (h : Hy.Gf w w' F) : Sr.Gf w w' F := ⟨h.os, h.tape, h.output, h.size, h.block⟩
theorem fz_gf {w w' : World} {F : Nat → Prop} (hg : Sr.Gf w w' F) {b o : Nat} (hb : b < w.heap.size) (h : w.frozen? ⟨b, o, none⟩ = false) (hf : ¬ F b) : w'.frozen? ⟨b, o, none⟩ = false :=
 (World.frozen?_of_block (a := ⟨b, o, none⟩) (hg.block b hb hf)).trans h
theorem st_gf {w w' : World} {F : Nat → Prop} {b : Nat} {l : List Smp} {k t : Int} (h : Rn.St w b l k t) (hg : Sr.Gf w w' F) (hf : ¬ F b) : Rn.St w' b l k t := by
 obtain ⟨⟨f, o, ho, hl, hr, hfi⟩, hw⟩ := h
 exact ⟨⟨f, o, ho, hl, ⟨fun j hj => hg.cell (hr.ct j hj) hf, fun j hj => hg.cell (hr.cv j hj) hf, fun j hj => hg.cell (hr.cn j hj) hf, hg.cell hr.co hf, hg.cell hr.cc hf, hg.cell hr.ck hf, hg.cell hr.cw hf, fun j hj => fz_gf hg hr.lt (hr.fz j hj) hf⟩, hfi⟩, hw⟩
/-- A set's row: of its kind, a text ahead. -/
def Zp (w : World) (k : Nat) : Prop := Sr.Ty w k 45 ∧ ∃ s, w.cell? ⟨k, 0, none⟩ = some (Lb.tx s)
theorem so_gf {w w' : World} {sb : Nat} {now : Int} {F G : Nat → Prop} {L : Sr.HL} (h : Sr.So w sb now F L) (hg : Sr.Gf w w' G) (hFG : ∀ k, F k → ¬ G k) (hQ : ∀ k, Sr.Ty w k 45 → ¬ G k) : Sr.So w' sb now F L := by
 obtain ⟨base, ao, n, cap, rs, hx, hbs, hrs, k4, hF, k6⟩ := h
 have h0 := hFG sb (hF sb (Or.inl rfl))
 refine ⟨base, ao, n, cap, rs, ⟨hg.cell hx.c0 h0, hg.cell hx.c1 h0, fz_gf hg hx.t.lt hx.f0 h0, fz_gf hg hx.t.lt hx.f1 h0, hx.t.gf hg h0, Sr.row_gf hx.p hg (fun g e => hFG g (hF g (Or.inr (Or.inl e)))), fun r hr => (hx.q r hr).gf hg hQ, fun r hr => st_gf (hx.s r hr) hg (hFG _ (hF _ (Or.inr (Or.inr ⟨r, hr, rfl⟩)))), hx.n1, hx.n2, hx.n3, hx.ap⟩, Nat.le_trans hbs hg.size, hrs, k4, hF, k6⟩
theorem so_tight {w : World} {sb : Nat} {now : Int} {F : Nat → Prop} {L : Sr.HL} (h : Sr.So w sb now F L) : Sr.So w sb now (fun k => F k ∧ k < w.heap.size ∧ ¬ Zp w k) L := by
 obtain ⟨base, ao, n, cap, rs, hx, hbs, hrs, k4, hF, k6⟩ := h
 refine ⟨base, ao, n, cap, rs, hx, hbs, hrs, k4, fun k hk => ⟨hF k hk, ?_⟩, k6⟩
 rcases hk with e | e | ⟨r, hr, e⟩
 ·
  rw [e]; exact ⟨hx.t.lt, fun z => z.1.ne hx.t (by decide) rfl⟩
 ·
  exact ⟨(Sr.row_ty hx.p e).lt, fun z => z.1.ne (Sr.row_ty hx.p e) (by decide) rfl⟩
 ·
  rw [e]
  obtain ⟨⟨f, o, ho, hl, hr, hfi⟩, hw⟩ := hx.s r hr
  refine ⟨hr.lt, fun z => ?_⟩
  obtain ⟨_, s, hs⟩ := z
  have := hr.ct 0 (by omega)
  rw [Nat.zero_mul] at this
  rw [this] at hs
  cases hs
theorem hs_gf {w w' : World} {F : Nat → Prop} {p : Nat} {lv sv : Value} (h : Hy.Sr w p lv sv) (hg : Hy.Gf w w' F) (hf : ¬ F p) : Hy.Sr w' p lv sv := ⟨hg.cell h.c0 hf, hg.cell h.c1 hf⟩
theorem hx_gf {w w' : World} {hb : Nat} {now : Int} {base : Nat} {ao : Option Addr} {n cap : Nat} {rs : List Hy.Rec} {G : Nat → Prop} (hx : Hy.Hx w hb now base ao n cap rs) (hg : Hy.Gf w w' G) (hF : ∀ k, Hy.Ft hb (.slice ao n cap) rs k → ¬ G k) : Hy.Hx w' hb now base ao n cap rs := by
 have h0 := hF hb (Or.inl rfl)
 have hs := gfS hg
 refine ⟨hg.cell hx.c0 h0, hg.cell hx.c1 h0, fz_gf hs hx.t.lt hx.f0 h0, fz_gf hs hx.t.lt hx.f1 h0, hx.t.gf hg h0, Sr.row_gf hx.p hs (fun g e => hF g (Or.inr (Or.inl e))), fun r hr => ?_, hx.a, hx.now_, hx.n_⟩
 have r1 := hF r.1 (Or.inr (Or.inr ⟨r, hr, Or.inl rfl⟩))
 have hw := hx.r r hr
 have ho : Hy.Own w' base (Hy.sl r) r.2.2.2.2.2 := Sr.row_gf hw.o hs (fun g e => hF g (Or.inr (Or.inr ⟨r, hr, Or.inr e⟩)))
 exact ⟨⟨hs_gf hw.m.s hg r1, Hy.Ms.of_own ho, hw.m.n⟩, ho, fz_gf hs hw.t.lt hw.f r1, hw.t.gf hg r1⟩
theorem hf_gf {w w' : World} {hb : Nat} {now : Int} {base : Nat} {F G : Nat → Prop} {L : Hy.HL} (h : Hy.Hf w hb now base F L) (hg : Hy.Gf w w' G) (hFG : ∀ k, F k → ¬ G k) (hQ : ∀ k, Zp w k → ¬ G k) : Hy.Hf w' hb now base F L := by
 obtain ⟨ao, n, cap, rs, hx, hl, hf, hj⟩ := h
 exact ⟨ao, n, cap, rs, hx_gf hx hg (fun k e => hFG k (hf k e)), hl, hf, fun j e => ⟨(hj j e).1.gfz hg (fun g h1 h2 => hQ g ⟨h1, h2⟩), (hj j e).2⟩⟩
theorem hf_tight {w : World} {hb : Nat} {now : Int} {base : Nat} {F : Nat → Prop} {L : Hy.HL} (h : Hy.Hf w hb now base F L) : Hy.Hf w hb now base (fun k => F k ∧ k < w.heap.size ∧ ¬ Sr.Ty w k 45) L := by
 obtain ⟨ao, n, cap, rs, hx, hl, hf, hj⟩ := h
 refine ⟨ao, n, cap, rs, hx, hl, fun k hk => ⟨hf k hk, ?_⟩, hj⟩
 have H : ∀ e, Hy.Ty w k e → e ≠ 45 → k < w.heap.size ∧ ¬ Sr.Ty w k 45 := fun e ht hne => ⟨ht.lt, fun z => Hy.Ty.ne z ht (fun h => hne h.symm) rfl⟩
 rcases hk with e | e | ⟨r, hr, e | e⟩
 ·
  rw [e]; exact ⟨hx.t.lt, fun z => Hy.Ty.ne z hx.t (by decide) rfl⟩
 ·
  exact H _ (Hy.row_ty hx.p e) (by decide)
 ·
  rw [e]; exact ⟨(hx.r r hr).t.lt, fun z => Hy.Ty.ne z (hx.r r hr).t (by decide) rfl⟩
 ·
  exact H _ (Hy.row_ty (hx.r r hr).o e) (by decide)
theorem hf_hb {w : World} {hb : Nat} {now : Int} {base : Nat} {F : Nat → Prop} {L : Hy.HL} (h : Hy.Hf w hb now base F L) : F hb := by
 obtain ⟨ao, n, cap, rs, hx, hl, hf, hj⟩ := h
 exact hf hb (Or.inl rfl)
/-- A store and a history, made since w0, apart. -/
def JJ (w0 w : World) (sb : Nat) (t1 : Int) (L : Sr.HL) (hb : Nat) (t2 : Int) (H : Hy.HL) : Prop :=
 ∃ F G, Sr.So w sb t1 F L ∧ Hy.Hf w hb t2 w0.heap.size G H ∧ (∀ k, F k → ¬ G k) ∧ (∀ k, F k → w0.heap.size ≤ k ∧ k < w.heap.size ∧ ¬ Zp w k) ∧ (∀ k, G k → w0.heap.size ≤ k ∧ k < w.heap.size ∧ ¬ Sr.Ty w k 45) ∧ Below w0.heap.size w0 w
theorem JJ.mk {w0 w : World} {sb : Nat} {t1 : Int} {L : Sr.HL} {hb : Nat} {t2 : Int} {H : Hy.HL} {F G : Nat → Prop} (h1 : Sr.So w sb t1 F L) (h2 : Hy.Hf w hb t2 w0.heap.size G H) (hd : ∀ k, F k → ¬ G k) (hF : ∀ k, F k → w0.heap.size ≤ k) (hG : ∀ k, G k → w0.heap.size ≤ k) (hB : Below w0.heap.size w0 w) : JJ w0 w sb t1 L hb t2 H :=
 ⟨_, _, so_tight h1, hf_tight h2, fun k e e2 => hd k e.1 e2.1, fun k e => ⟨hF k e.1, e.2⟩, fun k e => ⟨hG k e.1, e.2⟩, hB⟩
theorem JJ.later {w0 w w' : World} {sb : Nat} {t1 : Int} {L : Sr.HL} {hb : Nat} {t2 : Int} {H : Hy.HL} (h : JJ w0 w sb t1 L hb t2 H) (hw : Below w.heap.size w w') : JJ w0 w' sb t1 L hb t2 H := by
 obtain ⟨F, G, h1, h2, hd, hF, hG, hB⟩ := h
 exact JJ.mk (h1.later hw) (h2.later hw (fun _ e => e)) hd (fun k e => (hF k e).1) (fun k e => (hG k e).1) (Below.chain hB hw)
theorem JJ.b {w0 w : World} {sb : Nat} {t1 : Int} {L : Sr.HL} {hb : Nat} {t2 : Int} {H : Hy.HL} (h : JJ w0 w sb t1 L hb t2 H) : Below w0.heap.size w0 w := by
 obtain ⟨F, G, h1, h2, hd, hF, hG, hB⟩ := h
 exact hB
/-- The same, and a block that is neither's. -/
def JX (w0 w : World) (sb : Nat) (t1 : Int) (L : Sr.HL) (hb : Nat) (t2 : Int) (H : Hy.HL) (xb : Nat) : Prop :=
 ∃ F G, Sr.So w sb t1 F L ∧ Hy.Hf w hb t2 w0.heap.size G H ∧ (∀ k, F k → ¬ G k) ∧ (∀ k, F k → w0.heap.size ≤ k ∧ k < w.heap.size ∧ ¬ Zp w k) ∧ (∀ k, G k → w0.heap.size ≤ k ∧ k < w.heap.size ∧ ¬ Sr.Ty w k 45) ∧ Below w0.heap.size w0 w ∧ ¬ F xb ∧ ¬ G xb ∧ xb < w.heap.size
theorem JX.jj {w0 w : World} {sb : Nat} {t1 : Int} {L : Sr.HL} {hb : Nat} {t2 : Int} {H : Hy.HL} {xb : Nat} (h : JX w0 w sb t1 L hb t2 H xb) : JJ w0 w sb t1 L hb t2 H := by
 obtain ⟨F, G, h1, h2, h3, h4, h5, h6, _⟩ := h
 exact ⟨F, G, h1, h2, h3, h4, h5, h6⟩
theorem JX.mk {w0 w : World} {sb : Nat} {t1 : Int} {L : Sr.HL} {hb : Nat} {t2 : Int} {H : Hy.HL} {F G : Nat → Prop} {xb : Nat} (h1 : Sr.So w sb t1 F L) (h2 : Hy.Hf w hb t2 w0.heap.size G H) (hd : ∀ k, F k → ¬ G k) (hF : ∀ k, F k → w0.heap.size ≤ k) (hG : ∀ k, G k → w0.heap.size ≤ k) (hB : Below w0.heap.size w0 w) (hx : ¬ F xb ∧ ¬ G xb ∧ xb < w.heap.size) : JX w0 w sb t1 L hb t2 H xb :=
 ⟨_, _, so_tight h1, hf_tight h2, fun k e e2 => hd k e.1 e2.1, fun k e => ⟨hF k e.1, e.2⟩, fun k e => ⟨hG k e.1, e.2⟩, hB, fun e => hx.1 e.1, fun e => hx.2.1 e.1, hx.2.2⟩
theorem JX.later {w0 w w' : World} {sb : Nat} {t1 : Int} {L : Sr.HL} {hb : Nat} {t2 : Int} {H : Hy.HL} {xb : Nat} (h : JX w0 w sb t1 L hb t2 H xb) (hw : Below w.heap.size w w') : JX w0 w' sb t1 L hb t2 H xb := by
 obtain ⟨F, G, h1, h2, hd, hF, hG, hB, hx⟩ := h
 exact JX.mk (h1.later hw) (h2.later hw (fun _ e => e)) hd (fun k e => (hF k e).1) (fun k e => (hG k e).1) (Below.chain hB hw) ⟨hx.1, hx.2.1, Nat.lt_of_lt_of_le hx.2.2 hw.size⟩
/-- A block more. -/
theorem JJ.jx {w0 w : World} {sb : Nat} {t1 : Int} {L : Sr.HL} {hb : Nat} {t2 : Int} {H : Hy.HL} (h : JJ w0 w sb t1 L hb t2 H) (o : Obj) : JX w0 (w.alloc o) sb t1 L hb t2 H w.heap.size := by
 obtain ⟨F, G, h1, h2, hd, hF, hG, hB⟩ := h
 have hw := bal (Below.refl w.heap.size w) o
 exact JX.mk (h1.later hw) (h2.later hw (fun _ e => e)) hd (fun k e => (hF k e).1) (fun k e => (hG k e).1) (Below.chain hB hw) ⟨fun e => by have := (hF _ e).2.1; omega, fun e => by have := (hG _ e).2.1; omega, by simp⟩
theorem jx_sadv {w0 w : World} {sb : Nat} {t1 : Int} {L : Sr.HL} {hb : Nat} {t2 : Int} {H : Hy.HL} {xb : Nat} (h : JX w0 w sb t1 L hb t2 H xb) (m : Int) :
  Calls Tryz.prog 11 #[.pointer (some ⟨sb, 0, none⟩), .int .i64 m] w fun e w' => e = .returned (.tuple #[]) ∧ JX w0 w' sb (Rn.onw t1 m) (Sr.advL (Rn.onw t1 m) L) hb t2 H xb ∧ w'.heap[xb]? = w.heap[xb]? := by
 obtain ⟨F, G, h1, h2, hd, hF, hG, hB, hx⟩ := h
 refine (Sr.adv_so sb t1 F L m w h1).mono ?_
 rintro e w' ⟨rfl, h3, hg⟩
 exact ⟨rfl, JX.mk h3 (hf_gf h2 (gfH hg) (fun k e e2 => hd k e2 e) (fun k z e => (hF k e).2.2 z)) hd (fun k e => (hF k e).1) (fun k e => (hG k e).1) (Sr.below_gf hB hg (fun k e => (hF k e).1)) ⟨hx.1, hx.2.1, Nat.lt_of_lt_of_le hx.2.2 hg.size⟩, hg.block xb hx.2.2 hx.1⟩
theorem jx_sadd {w0 w : World} {sb : Nat} {t1 : Int} {L : Sr.HL} {hb : Nat} {t2 : Int} {H : Hy.HL} {xb : Nat} (h : JX w0 w sb t1 L hb t2 H xb) (qa : Option Addr) (qn qc : Nat) (q : List Lb.Pr) (hq : Sr.Pv w (.slice qa qn qc) q) (hfit : Lb.Fit q) (s : Smp) (hr : R64 s.2.2) :
  Calls Tryz.prog 13 #[.pointer (some ⟨sb, 0, none⟩), .slice qa qn qc, Rn.sv s] w fun e w' => e = .returned (.int .i64 (Sr.addEL t1 L q s.1)) ∧ JX w0 w' sb t1 (Sr.addLL t1 L q s) hb t2 H xb ∧ w'.heap[xb]? = w.heap[xb]? := by
 obtain ⟨F, G, h1, h2, hd, hF, hG, hB, hx⟩ := h
 refine (Sr.add_so sb t1 F L qa qn qc q s w h1 hq hfit hr).mono ?_
 rintro e w' ⟨rfl, h3, hg⟩
 have hs := hB.size
 refine ⟨rfl, JX.mk h3 (hf_gf h2 (gfH hg) (fun k e e2 => hd k e2 e) (fun k z e => (hF k e).2.2 z)) (fun k e e2 => ?_) (fun k e => ?_) (fun k e => (hG k e).1) (Sr.below_gf hB hg (fun k e => (hF k e).1)) ⟨fun e => e.elim hx.1 (fun e => by have := hx.2.2; omega), hx.2.1, Nat.lt_of_lt_of_le hx.2.2 hg.size⟩, hg.block xb hx.2.2 hx.1⟩
 ·
  rcases e with e | e
  ·
   exact hd k e e2
  ·
   have := (hG k e2).2.1; omega
 ·
  rcases e with e | e
  ·
   exact (hF k e).1
  ·
   omega
theorem jx_hadv {w0 w : World} {sb : Nat} {t1 : Int} {L : Sr.HL} {hb : Nat} {t2 : Int} {H : Hy.HL} {xb : Nat} (h : JX w0 w sb t1 L hb t2 H xb) (m : Int) :
  Calls Tryz.prog 12 #[.pointer (some ⟨hb, 0, none⟩), .int .i64 m] w fun e w' => e = .returned (.tuple #[]) ∧ JX w0 w' sb t1 L hb (Hy.onw t2 m) H xb ∧ w'.heap[xb]? = w.heap[xb]? := by
 obtain ⟨F, G, h1, h2, hd, hF, hG, hB, hx⟩ := h
 have hbG := hf_hb h2
 refine (Hy.adv_hist hb t2 _ G H m w h2).mono ?_
 rintro e w' ⟨rfl, h3, hg⟩
 have hg2 : Sr.Gf w w' G := Sr.Gf.of hg (fun k e _ => by injection e with e; rw [← e]; exact hbG)
 exact ⟨rfl, JX.mk (so_gf h1 hg2 hd (fun k z e => (hG k e).2.2 z)) h3 hd (fun k e => (hF k e).1) (fun k e => (hG k e).1) (Sr.below_gf hB hg2 (fun k e => (hG k e).1)) ⟨hx.1, hx.2.1, Nat.lt_of_lt_of_le hx.2.2 hg2.size⟩, hg2.block xb hx.2.2 hx.2.1⟩
theorem pq_made (W : World) (base : Nat) (lv : Value) (q : List Lb.Pr) (hn : q.length ≤ 1000000) (h : W.ownsRow base 45 2 lv q.length (Sr.cellsQ q)) : Hy.Pq W lv q := by
 have h' := h
 rcases h.2 with ⟨rfl, h0⟩ | ⟨g, cap, cur, rfl, hb, hg, hn', _, hs, ht⟩
 ·
  have : q = [] := List.length_eq_zero_iff.1 h0
  subst this
  exact ⟨none, 0, 0, rfl, by omega, ⟨rfl, fun h => by omega⟩, fun g e => by simp [Value.ownBlock] at e⟩
 ·
  obtain ⟨xa, xn, xc, e, hxn, hp, _⟩ := Sr.pq_own h' hn
  injection e with e1 e2 e3
  subst e1 e2 e3
  refine ⟨_, _, _, rfl, hxn, hp, fun g' e h0 => ?_⟩
  obtain rfl : g = g' := by simpa [Value.ownBlock] using e
  refine ⟨Sr.row_ty h' e, ?_⟩
  obtain ⟨b, off, e2, hc⟩ := hp.2 h0
  injection e2 with e2
  injection e2 with e2 e3
  subst e2 e3
  have := (hc 0 h0).1
  rw [Nat.zero_mul, Nat.add_zero] at this
  exact ⟨_, this⟩
theorem jx_hadd {w0 w : World} {sb : Nat} {t1 : Int} {L : Sr.HL} {hb : Nat} {t2 : Int} {H : Hy.HL} {xb : Nat} (h : JX w0 w sb t1 L hb t2 H xb) (qa : Option Addr) (qn qc : Nat) (q : List Lb.Pr) (hq0 : Sr.Pv w0 (.slice qa qn qc) q) (hfit : Lb.Fit q) (t : Int) (xo : Bool) (xn : Int) (hr : R64 xn)
  (hL : H.length + 1 ≤ 1000000) (hS : ∀ j, j < H.length → (H.getD j Hy.d0).2.length + 1 ≤ 1000000) :
  Calls Tryz.prog 14 #[.pointer (some ⟨hb, 0, none⟩), .slice qa qn qc, Rn.sv (t, xo, xn)] w fun e w' => e = .returned (.int .i64 (Hy.addE t2 H q t)) ∧ JX w0 w' sb t1 L hb t2 (Hy.addL t2 H q (t, xo, xn)) xb ∧ w'.heap[xb]? = w.heap[xb]? := by
 have hJ := h
 obtain ⟨F, G, h1, h2, hd, hF, hG, hB, hx⟩ := h
 have hq : Sr.Pv w (.slice qa qn qc) q := hq0.later hB
 have hqb : 0 < qn → ∀ g, (Value.slice qa qn qc).ownBlock = some g → g < w0.heap.size := fun h0 g hg => by
  obtain ⟨xa, xm, xc, e, _, hp⟩ := hq0
  injection e with e1 e2 e3
  subst e1 e2 e3
  obtain ⟨b, off, rfl, hc⟩ := hp.2 h0
  obtain rfl : b = g := by simpa [Value.ownBlock] using hg
  exact World.block_lt_of_cell? _ _ (hc 0 h0).1
 by_cases hz : Hy.addE t2 H q t = 0
 ·
  have hs := hB.size
  have hql : q.length = qn ∧ qn ≤ 1000000 := by
   obtain ⟨xa, xm, xc, e, hm, hp⟩ := hq
   injection e with e1 e2 e3
   subst e1 e2 e3
   exact ⟨hp.1, hm⟩
  rw [hz]
  refine (Hy.add_yes hb t2 _ G H qa qn qc q t xo xn (Sr.cellsQ q) w h2 hq (fun h0 g hg e => by have := hqb h0 g hg; have := (hG g e).1; omega) hfit hz hr hL hS hs ?_ ?_).mono ?_
  ·
   intro W hW hpv
   cases qa with
   | none =>
    have h0 : qn = 0 := by
     obtain ⟨xa, xm, xc, e, hm, hp⟩ := hpv
     injection e with e1 e2 e3
     subst e1 e2 e3
     rcases Nat.eq_zero_or_pos qn with h | h
     ·
      exact h
     ·
      obtain ⟨b, off, e, _⟩ := hp.2 h
      cases e
    have hqe : q = [] := List.length_eq_zero_iff.1 (by omega)
    subst h0 hqe
    obtain ⟨i0, hi, _⟩ := Hy.infoQ_parts
    have ht : Tryz.prog.underlying 31 = some (.slice 45) := Tryz.underlying31
    exact ⟨.slice none 0 0, W, by simp [Builtin.append_, run_underlying ht, sizeOf, typeInfo, hi, Builtin.lenOf, Builtin.firstCells], World.ownsRow_nil W _ 45 2, Below.refl _ W⟩
   | some ad =>
    obtain ⟨xa, xm, xc, e, hm, hp⟩ := hpv
    injection e with e1 e2 e3
    subst e1 e2 e3
    exact Hy.pairs_copied W w.heap.size ad qn qc (Sr.cellsQ q) (by rw [Sr.cellsQ_length, hql.1]) (Sr.ps_cells hp) (Sr.cellsQ_one q) hql.2 hW
  ·
   intro W lv ho
   exact pq_made W _ lv q (by omega) (by rw [hql.1]; exact ho)
  ·
   rintro e w' ⟨rfl, h3, hg⟩
   refine ⟨rfl, JX.mk (so_gf h1 (gfS hg) hd (fun k z e => (hG k e).2.2 z)) h3 (fun k e e2 => ?_) (fun k e => (hF k e).1) (fun k e => ?_) (Sr.below_gf hB (gfS hg) (fun k e => (hG k e).1)) ⟨hx.1, fun e => e.elim hx.2.1 (fun e => by have := hx.2.2; omega), Nat.lt_of_lt_of_le hx.2.2 hg.size⟩, hg.block xb hx.2.2 hx.2.1⟩
   ·
    rcases e2 with e2 | e2
    ·
     exact hd k e e2
    ·
     have := (hF k e).2.1; omega
   ·
    rcases e with e | e
    ·
     exact (hG k e).1
    ·
     omega
 ·
  refine (Hy.add_no hb t2 _ G H qa qn qc q t xo xn w h2 hq hfit hz).mono ?_
  rintro e w' ⟨rfl, hw⟩
  have e2 : Hy.addL t2 H q (t, xo, xn) = H := by unfold Hy.addL; rw [if_pos hz]
  rw [e2]
  exact ⟨rfl, hJ.later hw, hw.block xb hx.2.2⟩
end Go.Proofs.YtjgckfcocmhnhaaGreatDoor.Sp
namespace Go.Proofs.YtjgckfcocmhnhaaGreatDoor.Sp
open Go.RowKit
/-- Who matches, with where it lies. -/
theorem stN_zip (G : Nat → Bool) (P : List Lb.Pr × List Smp → Bool) (rs : List Hy.Rec) (L : Hy.HL) (hG : ∀ j, j < L.length → G j = P (L.getD j Hy.d0)) : ∀ k, k ≤ L.length →
  ∃ Z : List (Hy.Rec × (List Lb.Pr × List Smp)), Hy.stN G rs k = Z.map (·.1) ∧ (L.take k).filter P = Z.map (·.2) ∧ ∀ z ∈ Z, ∃ j, j < L.length ∧ z = (rs.getD j Hy.r0, L.getD j Hy.d0)
 | 0, _ => ⟨[], rfl, by simp, by simp⟩
 | k + 1, hk => by
  obtain ⟨Z, h1, h2, h3⟩ := stN_zip G P rs L hG k (by omega)
  have hk2 : k < L.length := by omega
  have e : L.getD k Hy.d0 = L[k] := by rw [List.getD_eq_getElem?_getD, List.getElem?_eq_getElem hk2]; rfl
  refine ⟨Z ++ (if G k then [(rs.getD k Hy.r0, L.getD k Hy.d0)] else []), ?_, ?_, ?_⟩
  ·
   show Hy.stN G rs k ++ (if G k then [rs.getD k Hy.r0] else []) = _
   rw [h1, List.map_append]
   cases G k <;> rfl
  ·
   rw [List.take_succ_eq_append_getElem hk2, List.filter_append, h2, List.map_append, hG k hk2, e]
   cases hP : P L[k] <;> simp [hP]
  ·
   intro z hz
   rcases List.mem_append.1 hz with hz | hz
   ·
    exact h3 z hz
   ·
    cases hg : G k with
    | true =>
     rw [hg, if_pos rfl] at hz
     exact ⟨k, hk2, List.mem_singleton.1 hz⟩
    | false =>
     rw [hg] at hz
     simp at hz
theorem sets_hist (hb : Nat) (now : Int) (base : Nat) (F : Nat → Prop) (L : Hy.HL) (mo : Option Addr) (mn mc : Nat) (m : List Lb.Mat) (w : World) (h : Hy.Hf w hb now base F L) (his : ∀ x ∈ L, Lb.fIs x.1 = true) (hmn : mn ≤ 1000000) (hm : Lb.Ms w mo mn m) (hg : Lb.FitM m) :
  Calls Tryz.prog 44 #[.pointer (some ⟨hb, 0, none⟩), .int .i64 now, .slice mo mn mc] w fun e w' => ∃ v, e = .returned v ∧ Below w.heap.size w w' ∧
   ∃ Z : List (Hy.Rec × (List Lb.Pr × List Smp)), Hy.OwnP w' w.heap.size v (Z.map (·.1)) ∧ (L.filter fun x => !(Hy.bet (now - 100) now x.2).isEmpty && Lb.fAll x.1 m) = Z.map (·.2) ∧ ∀ z ∈ Z, Hy.Rm w' z.1 ∧ Hy.Pq w' z.1.2.1 z.2.1 := by
 obtain ⟨ao, n, cap, rs, hx, hl, _, hj⟩ := h
 have hm' := hx.hm
 have hn : rs.length = n := hm'.p.1
 have hnow := hx.now_
 refine (Hy.sets_any hb now ao n cap rs now (.slice mo mn mc) (fun j => Lb.fAll (L.getD j Hy.d0).1 m) w hm' (by omega) fun j hjn W hW => ?_).mono ?_
 ·
  obtain ⟨ya, ym, yc, e, hm2, hp2, _⟩ := (hj j (by omega)).1
  rw [e]
  refine Lb.refAll_any ya ym yc _ mo mn mc m W (by omega) (by omega) (hp2.later hW) (hm.later hW) (fun p hp => ?_) hg
  have hjl : j < L.length := by omega
  have := Sr.fit_of (his _ (List.getElem_mem hjl)) p (by
   rw [List.getD_eq_getElem?_getD, List.getElem?_eq_getElem hjl] at hp
   exact hp)
  omega
 ·
  rintro e w' ⟨v, rfl, ho, hb1⟩
  obtain ⟨Z, h1, h2, h3⟩ := stN_zip (fun j => decide (0 < (Hy.bet (now - 100) now (rs.getD j Hy.r0).2.2.2.2.2).length) && Lb.fAll (L.getD j Hy.d0).1 m) (fun x => !(Hy.bet (now - 100) now x.2).isEmpty && Lb.fAll x.1 m) rs L (fun j hjl => by
   rw [(hj j hjl).2]
   congr 1
   cases Hy.bet (now - 100) now (L.getD j Hy.d0).2 <;> simp) L.length (Nat.le_refl _)
  rw [List.take_length] at h2
  rw [show n = L.length by omega, h1] at ho
  refine ⟨v, rfl, hb1, Z, ho, h2, fun z hz => ?_⟩
  obtain ⟨j, hjl, rfl⟩ := h3 z hz
  exact ⟨(hx.r _ (Hy.getD_memR (by omega))).m.later hb1, (hj j hjl).1.later hb1⟩
end Go.Proofs.YtjgckfcocmhnhaaGreatDoor.Sp
