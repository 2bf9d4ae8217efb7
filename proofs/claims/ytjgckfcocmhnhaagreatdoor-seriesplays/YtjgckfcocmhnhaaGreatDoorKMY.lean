/- Texts that the others lean on. -/
import Derived.Test.YtjgckfcocmhnhaaGreatDoorKMV
import Derived.Test.YtjgckfcocmhnhaaGreatDoorKMX
namespace Go.Proofs.YtjgckfcocmhnhaaGreatDoor.Sr
open Go.RowKit Rn
abbrev HL := List (List Lb.Pr × List Smp)
def d0 : List Lb.Pr × List Smp := ([], [])
def pl (r : SRec) : List Lb.Pr × List Smp := (r.set, r.l)
/-- Where a set stands among those that are there; is it there; its samples. -/
def posL (q : List Lb.Pr) (L : HL) : Nat := L.findIdx fun x => decide (0 ≤ Lb.fCmp x.1 q)
def hasL (q : List Lb.Pr) (L : HL) : Bool := decide (posL q L < L.length) && decide (Lb.fCmp (L.getD (posL q L) d0).1 q = 0)
def smpL (q : List Lb.Pr) (L : HL) : List Smp := if hasL q L = true then (L.getD (posL q L) d0).2 else []
/-- Who is there at a time. -/
def advL (t : Int) (L : HL) : HL := (L.map fun x => (x.1, fg (t - 100) x.2)).filter fun x => !x.2.isEmpty
def setsL (m : List Lb.Mat) (L : HL) : List (List Lb.Pr) := (L.filter fun x => Lb.fAll x.1 m).map (·.1)
/-- Why a sample is none of a set's; who is there behind it. -/
def addEL (now : Int) (L : HL) (q : List Lb.Pr) (t : Int) : Int :=
 if Lb.fIs q = false then 30 else if hasL q L = true then adE (smpL q L) 100 now t else if adE [] 100 now t ≠ 0 then adE [] 100 now t else if 16 ≤ L.length then 151 else 0
def addLL (now : Int) (L : HL) (q : List Lb.Pr) (s : Smp) : HL :=
 if addEL now L q s.1 ≠ 0 then L else if hasL q L = true then L.set (posL q L) (q, smpL q L ++ [nrm s]) else L.take (posL q L) ++ (q, [nrm s]) :: L.drop (posL q L)
theorem pos_map (q : List Lb.Pr) (rs : List SRec) : posL q (rs.map pl) = posR q rs := by
 unfold posL posR
 rw [List.findIdx_map]
 rfl
theorem getD_map (rs : List SRec) (j : Nat) : (rs.map pl).getD j d0 = pl (rs.getD j r0) := by
 rw [List.getD_eq_getElem?_getD, List.getD_eq_getElem?_getD, List.getElem?_map]
 cases rs[j]? <;> rfl
theorem has_map (q : List Lb.Pr) (rs : List SRec) : hasL q (rs.map pl) = fndR q rs := by
 unfold hasL fndR
 rw [pos_map, getD_map, List.length_map]
 rfl
theorem smp_map (q : List Lb.Pr) (rs : List SRec) : smpL q (rs.map pl) = smpR q rs := by
 unfold smpL smpR
 rw [has_map, pos_map, getD_map]
 rfl
theorem sets_map (m : List Lb.Mat) (rs : List SRec) : setsL m (rs.map pl) = setsR m rs := by
 unfold setsL setsR
 rw [List.filter_map, List.map_map]
 rfl
theorem fit_of {q : List Lb.Pr} (h : Lb.fIs q = true) : ∀ p ∈ q, p.1.length ≤ 20 ∧ p.2.length ≤ 30 := by
 intro p hp
 unfold Lb.fIs at h
 rw [Bool.and_eq_true, List.all_eq_true] at h
 obtain ⟨i, hi, e⟩ := List.getElem_of_mem hp
 have := h.2 i (List.mem_range.2 hi)
 unfold Lb.okAt at this
 rw [Bool.and_eq_true, Bool.and_eq_true] at this
 have e2 : q.getD i ([], []) = p := by rw [List.getD_eq_getElem?_getD, List.getElem?_eq_getElem hi, ← e]; rfl
 rw [e2] at this
 obtain ⟨⟨h1, h2⟩, _⟩ := this
 unfold Lb.fName at h1
 unfold Lb.fVal at h2
 simp only [Bool.and_eq_true, decide_eq_true_eq] at h1 h2
 exact ⟨h1.1.1.2, h2.1.2⟩
/-- A store as it is reached: what it holds; its blocks are among F. -/
def So (w : World) (sb : Nat) (now : Int) (F : Nat → Prop) (L : HL) : Prop :=
 ∃ base ao n cap rs, Sx w sb now base ao n cap rs ∧ base ≤ w.heap.size ∧ (∀ r ∈ rs, r.t = now ∧ r.l ≠ [] ∧ Lb.fIs r.set = true) ∧ Srt rs ∧ (∀ k, Ft sb (.slice ao n cap) rs k → F k) ∧ n ≤ 16 ∧ L = rs.map pl ∧ 0 ≤ now ∧ now ≤ 1000000
theorem So.grow {w : World} {sb : Nat} {now : Int} {F G : Nat → Prop} {L : HL} (h : So w sb now F L) (hG : ∀ k, F k → G k) : So w sb now G L := by
 obtain ⟨base, ao, n, cap, rs, h1, h2, h3, h4, h5, h6⟩ := h
 exact ⟨base, ao, n, cap, rs, h1, h2, h3, h4, fun k hk => hG k (h5 k hk), h6⟩
theorem So.later {w w' : World} {sb : Nat} {now : Int} {F : Nat → Prop} {L : HL} (h : So w sb now F L) (hb : Below w.heap.size w w') : So w' sb now F L := by
 obtain ⟨base, ao, n, cap, rs, h1, h2, h3⟩ := h
 exact ⟨base, ao, n, cap, rs, h1.later hb, Nat.le_trans h2 hb.size, h3⟩
theorem new_so (w : World) : Calls Tryz.prog 10 #[] w fun e w' => e = .returned (.pointer (some ⟨w.heap.size, 0, none⟩)) ∧ So w' w.heap.size 0 (fun k => k = w.heap.size) [] ∧ Below w.heap.size w w' := by
 refine (new_sx w).mono ?_
 rintro e w' ⟨h1, h2, h3⟩
 refine ⟨h1, ⟨_, _, _, _, _, h2, h3.size, by simp, List.Pairwise.nil, ?_, by omega, rfl, by omega, by omega⟩, h3⟩
 rintro k (e | e | ⟨r, hr, _⟩)
 ·
  exact e
 ·
  simp [Value.ownBlock] at e
 ·
  cases hr
theorem now_so (sb : Nat) (now : Int) (F : Nat → Prop) (L : HL) (w : World) (h : So w sb now F L) : Calls Tryz.prog 17 #[.pointer (some ⟨sb, 0, none⟩)] w fun e w' => e = .returned (.int .i64 now) ∧ Below w.heap.size w w' := by
 obtain ⟨base, ao, n, cap, rs, h1, _⟩ := h
 exact now_any sb now base ao n cap rs w h1
theorem len_so (sb : Nat) (now : Int) (F : Nat → Prop) (L : HL) (w : World) (h : So w sb now F L) : Calls Tryz.prog 19 #[.pointer (some ⟨sb, 0, none⟩)] w fun e w' => e = .returned (.int .i64 L.length) ∧ Below w.heap.size w w' := by
 obtain ⟨base, ao, n, cap, rs, h1, _, _, _, _, _, h7, _⟩ := h
 rw [h7, List.length_map, h1.len]
 exact len_any sb now base ao n cap rs w h1
theorem last_so (sb : Nat) (now : Int) (F : Nat → Prop) (L : HL) (qa : Option Addr) (qn qc : Nat) (q : List Lb.Pr) (w : World) (h : So w sb now F L) (hqn : qn ≤ 1000000) (hq : Lb.Ps w qa qn q) :
  Calls Tryz.prog 25 #[.pointer (some ⟨sb, 0, none⟩), .slice qa qn qc] w fun e w' => e = .returned (.tuple #[sv (lst (addAll 10 now [] (smpL q L))), .bool (!(addAll 10 now [] (smpL q L)).isEmpty)]) ∧ Below w.heap.size w w' := by
 obtain ⟨base, ao, n, cap, rs, h1, _, _, h4, _, h6, h7, h8⟩ := h
 rw [h7, smp_map]
 exact last_sx sb now base ao n cap rs qa qn qc q w h1 (by omega) h8 h4 hqn hq
theorem window_so (sb : Nat) (now : Int) (F : Nat → Prop) (L : HL) (qa : Option Addr) (qn qc : Nat) (q : List Lb.Pr) (d : Int) (w : World) (h : So w sb now F L) (hqn : qn ≤ 1000000) (hq : Lb.Ps w qa qn q) :
  Calls Tryz.prog 20 #[.pointer (some ⟨sb, 0, none⟩), .slice qa qn qc, .int .i64 d] w fun e w' => ∃ v, e = .returned v ∧ Own w' w.heap.size v (addAll (wd d) now [] (smpL q L)) ∧ Below w.heap.size w w' := by
 obtain ⟨base, ao, n, cap, rs, h1, _, _, h4, _, h6, h7, h8⟩ := h
 rw [h7, smp_map]
 exact window_sx sb now base ao n cap rs qa qn qc q d w h1 (by omega) h8 h4 hqn hq
theorem over_so (name : Value) (a1 : Bool) (a2 : Int) (a3 : Bool) (sb : Nat) (now : Int) (F : Nat → Prop) (L : HL) (qa : Option Addr) (qn qc : Nat) (q : List Lb.Pr) (d : Int) (w : World) (h : So w sb now F L) (hqn : qn ≤ 1000000) (hq : Lb.Ps w qa qn q)
  (htell : ∀ rb W, St W rb (addAll (wd d) now [] (smpL q L)) (wd d) now → Calls Tryz.prog 55 #[pv rb (wd d) now, name] W fun e w' => e = .returned (.tuple #[.agg #[.bool a1, .int .i64 a2], .bool a3]) ∧ Below W.heap.size W w') :
  Calls Tryz.prog 21 #[.pointer (some ⟨sb, 0, none⟩), .slice qa qn qc, name, .int .i64 d] w fun e w' => e = .returned (.tuple #[.agg #[.bool a1, .int .i64 a2], .bool a3]) ∧ Below w.heap.size w w' := by
 obtain ⟨base, ao, n, cap, rs, h1, _, _, h4, _, h6, h7, h8⟩ := h
 rw [h7, smp_map] at htell
 exact over_sx name a1 a2 a3 sb now base ao n cap rs qa qn qc q d w h1 (by omega) h8 h4 hqn hq htell
theorem sets_so (sb : Nat) (now : Int) (F : Nat → Prop) (L : HL) (mo : Option Addr) (mn mc : Nat) (m : List Lb.Mat) (w : World) (h : So w sb now F L) (hmn : mn ≤ 1000000) (hm : Lb.Ms w mo mn m) (hg : Lb.FitM m) :
  Calls Tryz.prog 26 #[.pointer (some ⟨sb, 0, none⟩), .slice mo mn mc] w fun e w' => ∃ v, e = .returned v ∧ Qs w' w.heap.size v (setsL m L) ∧ Below w.heap.size w w' := by
 obtain ⟨base, ao, n, cap, rs, h1, _, h3, _, _, h6, h7, h8⟩ := h
 rw [h7, sets_map]
 refine sets_sx sb now base ao n cap rs mo mn mc m w h1 (by omega) hmn hm hg (fun r hr p hp => ?_)
 have := fit_of (h3 r hr).2.2 p hp
 exact ⟨by unfold Lb.Big; omega, by unfold Lb.Big; omega⟩
theorem adv_so (sb : Nat) (now : Int) (F : Nat → Prop) (L : HL) (m : Int) (w : World) (h : So w sb now F L) :
  Calls Tryz.prog 11 #[.pointer (some ⟨sb, 0, none⟩), .int .i64 m] w fun e w' => e = .returned (.tuple #[]) ∧ So w' sb (onw now m) F (advL (onw now m) L) ∧ Gf w w' F := by
 obtain ⟨base, ao, n, cap, rs, h1, h2, h3, h4, h5, h6, h7, h8, h9⟩ := h
 have hr := onw_range m ⟨h8, h9⟩
 refine (adv_sx sb now base ao n cap rs m w h1 (by omega) (fun r hr => (h3 r hr).1) ⟨h8, h9⟩).mono ?_
 rintro e w' ⟨e1, ⟨k, hx⟩, hg⟩
 have hkl : k = (kept (rs.map (later (onw now m)))).length := hx.len.symm
 have hle : (kept (rs.map (later (onw now m)))).length ≤ n := by
  refine Nat.le_trans (kept_len_le _) ?_
  rw [List.length_map, h1.len]
  exact Nat.le_refl _
 have hon : ∀ r ∈ rs, onw r.t (onw now m) = onw now m := fun r hr => by rw [(h3 r hr).1]; unfold onw; omega
 refine ⟨e1, ⟨base, ao, k, cap, _, hx, Nat.le_trans h2 hg.size, fun r hr => ?_, ?_, ?_, by omega, ?_, by omega, by omega⟩, ⟨hg.os, hg.tape, hg.output, hg.size, fun k hk hf => hg.block k hk (fun e => hf (h5 k e))⟩⟩
 ·
  obtain ⟨hr1, hr2⟩ := List.mem_filter.1 hr
  obtain ⟨x, hx, rfl⟩ := List.mem_map.1 hr1
  refine ⟨hon x hx, ?_, (h3 x hx).2.2⟩
  intro e
  rw [e] at hr2
  simp at hr2
 ·
  refine List.Pairwise.sublist List.filter_sublist ?_
  exact List.pairwise_map.2 h4
 ·
  rintro j (e | e | ⟨r, hr, e⟩)
  ·
   exact h5 j (Or.inl e)
  ·
   exact h5 j (Or.inr (Or.inl (by cases ao <;> exact e)))
  ·
   obtain ⟨hr1, _⟩ := List.mem_filter.1 hr
   obtain ⟨x, hx, rfl⟩ := List.mem_map.1 hr1
   exact h5 j (Or.inr (Or.inr ⟨x, hx, e⟩))
 ·
  unfold advL kept
  rw [h7, List.map_map, List.filter_map, List.filter_map, List.map_map]
  have e3 : ∀ r ∈ rs, (pl ∘ later (onw now m)) r = ((fun x : List Lb.Pr × List Smp => (x.1, fg (onw now m - 100) x.2)) ∘ pl) r := fun r hr => by
   show (r.set, fg (onw r.t (onw now m) - 100) r.l) = _
   rw [hon r hr]
   rfl
  have e4 : rs.filter ((fun r => !r.l.isEmpty) ∘ later (onw now m)) = rs.filter ((fun x : List Lb.Pr × List Smp => !x.2.isEmpty) ∘ (fun x => (x.1, fg (onw now m - 100) x.2)) ∘ pl) := by
   refine List.filter_congr fun r hr => ?_
   show (!(fg (onw r.t (onw now m) - 100) r.l).isEmpty) = _
   rw [hon r hr]
   rfl
  rw [e4]
  refine (List.map_congr_left fun r hr => ?_).symm
  exact e3 r (List.mem_filter.1 hr).1
end Go.Proofs.YtjgckfcocmhnhaaGreatDoor.Sr
namespace Go.Proofs.YtjgckfcocmhnhaaGreatDoor.Sr
open Go.RowKit Rn
theorem set_mem {rs : List SRec} {p : Nat} {x y : SRec} (h : y ∈ rs.set p x) : y = x ∨ ∃ i, ∃ hi : i < rs.length, i ≠ p ∧ y = rs[i] := by
 obtain ⟨i, hi, e⟩ := List.getElem_of_mem h
 rw [List.length_set] at hi
 rw [List.getElem_set] at e
 split at e
 ·
  exact Or.inl e.symm
 ·
  rename_i hne
  exact Or.inr ⟨i, hi, fun e1 => hne e1.symm, e.symm⟩
/-- One series' window turned. -/
theorem sx_put {w w' : World} {sb : Nat} {now : Int} {base : Nat} {ao : Option Addr} {n cap p : Nat} {rs : List SRec} (h : Sx w sb now base ao n cap rs) (hp : p < rs.length) {l' : List Smp}
  (hs : St w' rs[p].ring l' 100 rs[p].t) (hg : w.grownBy w' (some rs[p].ring)) : Sx w' sb now base ao n cap (rs.set p ⟨rs[p].lab, rs[p].ring, rs[p].set, l', rs[p].t⟩) := by
 have hm : rs[p] ∈ rs := List.getElem_mem hp
 have h1 : some sb ≠ some rs[p].ring := fun e => h.n1 _ hm (by injection e with e; exact e.symm)
 have hcell : cellsO (rs.set p ⟨rs[p].lab, rs[p].ring, rs[p].set, l', rs[p].t⟩) = cellsO rs := by
  unfold cellsO
  rw [List.set_eq_take_append_cons_drop, if_pos hp, List.flatMap_append, List.flatMap_cons]
  conv => rhs; rw [← List.take_append_drop p rs, List.drop_eq_getElem_cons hp, List.flatMap_append, List.flatMap_cons]
  rfl
 have hring : ∀ i (hi : i < rs.length), i ≠ p → rs[i].ring ≠ rs[p].ring := by
  intro i hi hne
  rcases Nat.lt_or_ge i p with hlt | hge
  ·
   exact List.pairwise_iff_getElem.1 h.ap i p hi hp hlt
  ·
   exact fun e => List.pairwise_iff_getElem.1 h.ap p i hp hi (by omega) e.symm
 have hq : ∀ r ∈ rs, Pq w' r.lab r.set := fun r hr => (h.q r hr).keptN hg (fun g hg' e => h.n3 _ hm r hr g hg' (by injection e))
 refine ⟨grown_cell hg h.c0 h1, grown_cell hg h.c1 h1, grown_frozen hg h.t.lt h.f0 h1, grown_frozen hg h.t.lt h.f1 h1, h.t.kept hg h1, ?_, fun r hr => ?_, fun r hr => ?_, fun r hr => ?_, fun r hr => ?_, fun r hr x hx => ?_, ?_⟩
 ·
  have := row_kept h.p hg (fun g e e1 => h.n2 _ hm g e (by injection e1))
  unfold OwnO at this ⊢
  rw [hcell, List.length_set]
  exact this
 ·
  rcases set_mem hr with rfl | ⟨i, hi, _, rfl⟩
  ·
   exact hq rs[p] hm
  ·
   exact hq _ (List.getElem_mem hi)
 ·
  rcases set_mem hr with rfl | ⟨i, hi, hne, rfl⟩
  ·
   exact hs
  ·
   exact (h.s _ (List.getElem_mem hi)).kept hg (fun e => hring i hi hne (by injection e))
 ·
  rcases set_mem hr with rfl | ⟨i, hi, _, rfl⟩
  ·
   exact h.n1 rs[p] hm
  ·
   exact h.n1 _ (List.getElem_mem hi)
 ·
  rcases set_mem hr with rfl | ⟨i, hi, _, rfl⟩
  ·
   exact h.n2 rs[p] hm
  ·
   exact h.n2 _ (List.getElem_mem hi)
 ·
  rcases set_mem hr with rfl | ⟨i, hi, _, rfl⟩ <;> rcases set_mem hx with rfl | ⟨j, hj, _, rfl⟩
  ·
   exact h.n3 rs[p] hm rs[p] hm
  ·
   exact h.n3 rs[p] hm _ (List.getElem_mem hj)
  ·
   exact h.n3 _ (List.getElem_mem hi) rs[p] hm
  ·
   exact h.n3 _ (List.getElem_mem hi) _ (List.getElem_mem hj)
 ·
  refine List.pairwise_iff_getElem.2 fun i j hi hj hij => ?_
  rw [List.length_set] at hi hj
  rw [List.getElem_set, List.getElem_set]
  have := List.pairwise_iff_getElem.1 h.ap i j hi hj hij
  split <;> split <;> simp_all
theorem srt_insert {rs : List SRec} {q : List Lb.Pr} {r : SRec} (h : Srt rs) (hr : r.set = q) (hf : fndR q rs = false) : Srt (rs.take (posR q rs) ++ r :: rs.drop (posR q rs)) := by
 have hlt : ∀ a ∈ rs.take (posR q rs), Lb.fCmp a.set q < 0 := by
  intro a ha
  obtain ⟨i, hi, e⟩ := List.getElem_of_mem ha
  rw [List.length_take] at hi
  have := posR_lt (q := q) (rs := rs) (i := i) (by omega)
  rw [List.getElem_take] at e
  rw [List.getD_eq_getElem?_getD, List.getElem?_eq_getElem (by omega), Option.getD_some, e] at this
  exact this
 have hgt : ∀ b ∈ rs.drop (posR q rs), Lb.fCmp q b.set < 0 := by
  intro b hb
  obtain ⟨i, hi, e⟩ := List.getElem_of_mem hb
  rw [List.length_drop] at hi
  have hp : posR q rs < rs.length := by omega
  have h1 := posR_ge hp
  have h2 : Lb.fCmp (rs.getD (posR q rs) r0).set q ≠ 0 := by
   intro e2
   unfold fndR at hf
   rw [e2] at hf
   simp [hp] at hf
  rw [List.getD_eq_getElem?_getD, List.getElem?_eq_getElem hp, Option.getD_some] at h1 h2
  have h3 : Lb.fCmp q (rs[posR q rs]).set = -1 := by
   rw [Lb.fCmp_neg]
   rcases Lb.fCmp_cases (rs[posR q rs]).set q with h | h | h <;> omega
  rw [List.getElem_drop] at e
  rw [← e]
  rcases Nat.eq_zero_or_pos i with h0 | h0
  ·
   subst h0
   show Lb.fCmp q (rs[posR q rs]).set < 0
   omega
  ·
   have h4 := List.pairwise_iff_getElem.1 h (posR q rs) (posR q rs + i) hp (by omega) (by omega)
   have := Lb.fCmp_trans h3 (neg_one h4)
   omega
 unfold Srt at *
 rw [List.pairwise_append, List.pairwise_cons]
 refine ⟨h.sublist (List.take_sublist _ _), ⟨fun x hx => by rw [hr]; exact hgt x hx, h.sublist (List.drop_sublist _ _)⟩, fun a ha b hb => ?_⟩
 rcases List.mem_cons.1 hb with rfl | hb
 ·
  rw [hr]; exact hlt a ha
 ·
  have := Lb.fCmp_trans (neg_one (hlt a ha)) (neg_one (hgt b hb))
  omega
theorem adL_of {l : List Smp} {k now : Int} {s : Smp} : adL l k now s = if adE l k now s.1 ≠ 0 then l else l ++ [nrm s] := by
 unfold adL
 by_cases h : adE l k now s.1 = 0
 ·
  rw [if_pos h, if_neg (by simpa using h)]
 ·
  rw [if_neg h, if_pos h]
theorem fnd_set {q : List Lb.Pr} {rs : List SRec} (hf : fndR q rs = true) : ∃ hp : posR q rs < rs.length, (rs[posR q rs]).set = q := by
 unfold fndR at hf
 rw [Bool.and_eq_true, decide_eq_true_eq, decide_eq_true_eq] at hf
 refine ⟨hf.1, ?_⟩
 have := hf.2
 rw [List.getD_eq_getElem?_getD, List.getElem?_eq_getElem hf.1, Option.getD_some] at this
 exact (Lb.fCmp_zero _ _).1 this
theorem add_so (sb : Nat) (now : Int) (F : Nat → Prop) (L : HL) (qa : Option Addr) (qn qc : Nat) (q : List Lb.Pr) (s : Smp) (w : World) (h : So w sb now F L) (hq : Pv w (.slice qa qn qc) q) (hfit : Lb.Fit q) (hr : R64 s.2.2) :
  Calls Tryz.prog 13 #[.pointer (some ⟨sb, 0, none⟩), .slice qa qn qc, sv s] w fun e w' => e = .returned (.int .i64 (addEL now L q s.1)) ∧ So w' sb now (fun k => F k ∨ w.heap.size ≤ k) (addLL now L q s) ∧ Gf w w' F := by
 obtain ⟨base, ao, n, cap, rs, h1, h2, h3, h4, h5, h6, h7, h8, h9⟩ := h
 have hso : So w sb now F L := ⟨base, ao, n, cap, rs, h1, h2, h3, h4, h5, h6, h7, h8, h9⟩
 have hqn : qn ≤ 1000000 := by obtain ⟨xa, xn, xc, e, hn, _⟩ := hq; injection e with _ e; omega
 have hqp : Lb.Ps w qa qn q := by
  obtain ⟨xa, xn, xc, e, hn, hp⟩ := hq
  injection e with e1 e2 e3
  subst e1 e2
  exact hp
 have hgF : ∀ w', Gf w w' (Ft sb (.slice ao n cap) rs) → Gf w w' F := fun w' hg => ⟨hg.os, hg.tape, hg.output, hg.size, fun k hk hf => hg.block k hk (fun e => hf (h5 k e))⟩
 cases hok : Lb.fIs q with
 | false =>
  have e1 : addEL now L q s.1 = 30 := by unfold addEL; rw [if_pos hok]
  have e2 : addLL now L q s = L := by unfold addLL; rw [if_pos (by rw [e1]; decide)]
  rw [e1, e2]
  refine (add_bad sb qa qn qc q s w hqn hqp hfit hok).mono ?_
  rintro e w' ⟨k1, k2⟩
  exact ⟨k1, (hso.later k2).grow (fun k hk => Or.inl hk), Gf.below k2⟩
 | true =>
  cases hf : fndR q rs with
  | true =>
   obtain ⟨hp, hset⟩ := fnd_set hf
   have hh : hasL q L = true := by rw [h7, has_map]; exact hf
   have hsm : smpL q L = (rs[posR q rs]).l := by
    rw [h7, smp_map]
    unfold smpR
    rw [if_pos hf, List.getD_eq_getElem?_getD, List.getElem?_eq_getElem hp]
    rfl
   have ht := (h3 _ (List.getElem_mem hp)).1
   have e1 : addEL now L q s.1 = adE (rs[posR q rs]).l 100 now s.1 := by
    unfold addEL
    rw [if_neg (by rw [hok]; decide), if_pos hh, hsm]
   have hadd := add_found sb now base ao n cap rs qa qn qc q s w h1 (by omega) h4 hqn hqp hfit hok hr hf
   rw [List.getD_eq_getElem?_getD, List.getElem?_eq_getElem hp, Option.getD_some] at hadd
   rw [e1]
   refine hadd.mono ?_
   rintro e w' ⟨k1, k2, k3⟩
   rw [ht] at k1
   have hx := sx_put h1 hp k2 k3
   have hF : Gf w w' (Ft sb (.slice ao n cap) rs) := Gf.of k3 (fun k e _ => by cases e; exact Or.inr (Or.inr ⟨_, List.getElem_mem hp, rfl⟩))
   refine ⟨k1, ⟨base, ao, n, cap, _, hx, Nat.le_trans h2 k3.size, fun r hr => ?_, ?_, ?_, h6, ?_, h8, h9⟩, hgF w' hF⟩
   ·
    rcases set_mem hr with rfl | ⟨i, hi, _, rfl⟩
    ·
     refine ⟨ht, ?_, (h3 _ (List.getElem_mem hp)).2.2⟩
     show adL _ _ _ _ ≠ []
     rw [adL_of]
     split
     ·
      exact (h3 _ (List.getElem_mem hp)).2.1
     ·
      simp
    ·
     exact h3 _ (List.getElem_mem hi)
   ·
    refine List.pairwise_iff_getElem.2 fun i j hi hj hij => ?_
    rw [List.length_set] at hi hj
    rw [List.getElem_set, List.getElem_set]
    have := List.pairwise_iff_getElem.1 h4 i j hi hj hij
    split <;> split
    ·
     omega
    ·
     rename_i e1 e2; subst e1; exact this
    ·
     rename_i e1 e2; subst e2; exact this
    ·
     exact this
   ·
    rintro k (e | e | ⟨r, hr, e⟩)
    ·
     exact Or.inl (h5 k (Or.inl e))
    ·
     exact Or.inl (h5 k (Or.inr (Or.inl e)))
    ·
     rcases set_mem hr with rfl | ⟨i, hi, _, rfl⟩
     ·
      exact Or.inl (h5 k (Or.inr (Or.inr ⟨_, List.getElem_mem hp, e⟩)))
     ·
      exact Or.inl (h5 k (Or.inr (Or.inr ⟨_, List.getElem_mem hi, e⟩)))
   ·
    rw [List.map_set]
    show addLL now L q s = (rs.map pl).set (posR q rs) ((rs[posR q rs]).set, adL (rs[posR q rs]).l 100 (rs[posR q rs]).t s)
    unfold addLL
    rw [e1, adL_of, ht, hset]
    by_cases h0 : adE (rs[posR q rs]).l 100 now s.1 ≠ 0
    ·
     rw [if_pos h0, if_pos h0, h7]
     refine (List.ext_getElem (by rw [List.length_set]) fun i hi1 hi2 => ?_).symm
     rw [List.getElem_set]
     split
     ·
      rename_i e
      subst e
      rw [List.getElem_map]
      show (q, _) = (_, _)
      rw [hset]
     ·
      rfl
    ·
     rw [if_neg h0, if_neg h0, if_pos hh, hsm, h7, pos_map]
  | false =>
   have hh : hasL q L = false := by rw [h7, has_map]; exact hf
   have hlen : L.length = n := by rw [h7, List.length_map]; exact h1.len
   refine (add_other sb now base ao n cap rs qa qn qc q s w h1 (by omega) ⟨h8, h9⟩ h4 hq hfit hok hr hf h2).mono ?_
   rintro e w' (⟨k1, k2, k3⟩ | ⟨k1, k2, k3, k4⟩ | ⟨k1, k2, k3, ao', cap', lab, rb, k4, k5, k6, k7⟩)
   ·
    have e1 : addEL now L q s.1 = adE [] 100 now s.1 := by unfold addEL; rw [if_neg (by rw [hok]; decide), if_neg (by rw [hh]; decide), if_pos k1]
    have e2 : addLL now L q s = L := by unfold addLL; rw [if_pos (by rw [e1]; exact k1)]
    rw [e1, e2]
    exact ⟨k2, (hso.later k3).grow (fun k hk => Or.inl hk), Gf.below k3⟩
   ·
    have e1 : addEL now L q s.1 = 151 := by unfold addEL; rw [if_neg (by rw [hok]; decide), if_neg (by rw [hh]; decide), if_neg (by simpa using k1), if_pos (by omega)]
    have e2 : addLL now L q s = L := by unfold addLL; rw [if_pos (by rw [e1]; decide)]
    rw [e1, e2]
    exact ⟨k3, (hso.later k4).grow (fun k hk => Or.inl hk), Gf.below k4⟩
   ·
    have e1 : addEL now L q s.1 = 0 := by unfold addEL; rw [if_neg (by rw [hok]; decide), if_neg (by rw [hh]; decide), if_neg (by simpa using k1), if_neg (by omega)]
    have e2 : addLL now L q s = L.take (posL q L) ++ (q, [nrm s]) :: L.drop (posL q L) := by unfold addLL; rw [if_neg (by rw [e1]; decide), if_neg (by rw [hh]; decide)]
    rw [e1, e2]
    refine ⟨k3, ⟨base, ao', n + 1, cap', _, k4, Nat.le_trans h2 k5.size, fun r hr => ?_, srt_insert h4 rfl hf, ?_, by omega, ?_, h8, h9⟩, hgF w' k5⟩
    ·
     rcases mem_insert hr with rfl | hr
     ·
      exact ⟨rfl, by simp, hok⟩
     ·
      exact h3 r hr
    ·
     rintro k (e | e | ⟨r, hr, e⟩)
     ·
      exact Or.inl (h5 k (Or.inl e))
     ·
      rcases k7 with k7 | k7
      ·
       exact Or.inl (h5 k (Or.inr (Or.inl (k7 ▸ e))))
      ·
       exact Or.inr (k7 k e)
     ·
      rcases mem_insert hr with rfl | hr
      ·
       exact Or.inr (by rw [e]; exact k6)
      ·
       exact Or.inl (h5 k (Or.inr (Or.inr ⟨r, hr, e⟩)))
    ·
     rw [h7, pos_map, List.map_append, List.map_cons, List.map_take, List.map_drop]
     rfl
end Go.Proofs.YtjgckfcocmhnhaaGreatDoor.Sr
namespace Go.Proofs.YtjgckfcocmhnhaaGreatDoor.Sr
open Go.RowKit Rn
/-- A store, made since w0, and a set that it does not reach. -/
def S2 (w0 w : World) (sb : Nat) (now : Int) (L : HL) (v : Value) (q : List Lb.Pr) : Prop :=
 ∃ F, So w sb now F L ∧ Pq w v q ∧ (∀ g, v.ownBlock = some g → ¬ F g) ∧ (∀ k, F k → w0.heap.size ≤ k) ∧ Below w0.heap.size w0 w
theorem S2.later {w0 w w' : World} {sb : Nat} {now : Int} {L : HL} {v : Value} {q : List Lb.Pr} (h : S2 w0 w sb now L v q) (hb : Below w.heap.size w w') : S2 w0 w' sb now L v q := by
 obtain ⟨F, h1, h2, h3, h4, h5⟩ := h
 exact ⟨F, h1.later hb, h2.later hb, h3, h4, Below.chain h5 hb⟩
theorem S2.b {w0 w : World} {sb : Nat} {now : Int} {L : HL} {v : Value} {q : List Lb.Pr} (h : S2 w0 w sb now L v q) : Below w0.heap.size w0 w := by
 obtain ⟨F, _, _, _, _, h5⟩ := h
 exact h5
theorem pq_nil (w : World) : Pq w (.slice none 0 0) [] := ⟨none, 0, 0, rfl, by omega, ⟨rfl, fun h => by omega⟩, fun g e => by simp [Value.ownBlock] at e⟩
theorem So.lt {w : World} {sb : Nat} {now : Int} {F : Nat → Prop} {L : HL} (h : So w sb now F L) : So w sb now (fun k => F k ∧ k < w.heap.size) L := by
 obtain ⟨base, ao, n, cap, rs, hx, hbs, hrs, k4, hF, k6⟩ := h
 refine ⟨base, ao, n, cap, rs, hx, hbs, hrs, k4, fun k hk => ⟨hF k hk, ?_⟩, k6⟩
 rcases hk with e | e | ⟨r, hr, e⟩
 ·
  rw [e]; exact hx.t.lt
 ·
  exact (row_ty hx.p e).lt
 ·
  rw [e]; exact (hx.s r hr).m.lt
/-- Another set in the set's place. -/
theorem S2.with {w0 w : World} {sb : Nat} {now : Int} {L : HL} {v v' : Value} {q q' : List Lb.Pr} (h : S2 w0 w sb now L v q) (w1 : World) (hv : Pq w1 v' q') (hb : Below w.heap.size w w1) (hn : ∀ g, v'.ownBlock = some g → w.heap.size ≤ g) : S2 w0 w1 sb now L v' q' := by
 obtain ⟨F, h1, h2, h3, h4, h5⟩ := h
 exact ⟨_, h1.lt.later hb, hv, fun g hg e => by have := hn g hg; have := e.2; omega, fun k hk => h4 k hk.1, Below.chain h5 hb⟩
theorem Pq.keptF {w w' : World} {v : Value} {a : List Lb.Pr} {F : Nat → Prop} (h : Pq w v a) (hg : Gf w w' F) (hne : ∀ g, v.ownBlock = some g → ¬ F g) : Pq w' v a := by
 obtain ⟨xa, xn, xc, rfl, hn, hp, ht⟩ := h
 refine ⟨xa, xn, xc, rfl, hn, ?_, fun g e => (ht g e).gf hg (hne g e)⟩
 obtain ⟨hl, hc⟩ := hp
 refine ⟨hl, fun hpos => ?_⟩
 obtain ⟨b, off, rfl, hcell⟩ := hc hpos
 have hfb := hne b rfl
 exact ⟨b, off, rfl, fun j hj => ⟨hg.cell (hcell j hj).1 hfb, hg.cell (hcell j hj).2 hfb⟩⟩
theorem below_gf {w0 w w' : World} {F : Nat → Prop} (h : Below w0.heap.size w0 w) (hg : Gf w w' F) (hF : ∀ k, F k → w0.heap.size ≤ k) : Below w0.heap.size w0 w' :=
 ⟨hg.os.trans h.os, hg.tape.trans h.tape, hg.output.trans h.output, Nat.le_trans h.size hg.size, fun k hk => (hg.block k (Nat.lt_of_lt_of_le hk h.size) (fun e => by have := hF k e; omega)).trans (h.block k hk)⟩
theorem s2_adv {w0 w : World} {sb : Nat} {now : Int} {L : HL} {v : Value} {q : List Lb.Pr} (h : S2 w0 w sb now L v q) (m : Int) :
  Calls Tryz.prog 11 #[.pointer (some ⟨sb, 0, none⟩), .int .i64 m] w fun e w' => e = .returned (.tuple #[]) ∧ S2 w0 w' sb (onw now m) (advL (onw now m) L) v q := by
 obtain ⟨F, h1, h2, h3, h4, h5⟩ := h
 refine (adv_so sb now F L m w h1).mono ?_
 rintro e w' ⟨k1, k2, k3⟩
 exact ⟨k1, F, k2, h2.keptF k3 h3, h3, h4, below_gf h5 k3 h4⟩
theorem s2_add {w0 w : World} {sb : Nat} {now : Int} {L : HL} {v : Value} {q : List Lb.Pr} (h : S2 w0 w sb now L v q) (hfit : Lb.Fit q) (s : Smp) (hr : R64 s.2.2) :
  Calls Tryz.prog 13 #[.pointer (some ⟨sb, 0, none⟩), v, sv s] w fun e w' => e = .returned (.int .i64 (addEL now L q s.1)) ∧ S2 w0 w' sb now (addLL now L q s) v q := by
 obtain ⟨F, h1, h2, h3, h4, h5⟩ := h
 obtain ⟨xa, xn, xc, rfl, hxn, hps, ht⟩ := id h2
 refine (add_so sb now F L xa xn xc q s w h1 h2.pv hfit hr).mono ?_
 rintro e w' ⟨k1, k2, k3⟩
 refine ⟨k1, _, k2, h2.keptF k3 h3, fun g hg e => ?_, fun k hk => ?_, below_gf h5 k3 h4⟩
 ·
  rcases e with e | e
  ·
   exact h3 g hg e
  ·
   have := (ht g hg).lt
   omega
 ·
  rcases hk with hk | hk
  ·
   exact h4 k hk
  ·
   exact Nat.le_trans h5.size hk
theorem s2_addK {w0 w : World} {sb : Nat} {now : Int} {L : HL} {v : Value} {q : List Lb.Pr} (h : S2 w0 w sb now L v q) (hfit : Lb.Fit q) (s : Smp) (hr : R64 s.2.2) {e : Int} {L' : HL} (h1 : addEL now L q s.1 = e) (h2 : addLL now L q s = L') :
  Calls Tryz.prog 13 #[.pointer (some ⟨sb, 0, none⟩), v, sv s] w fun x w' => x = .returned (.int .i64 e) ∧ S2 w0 w' sb now L' v q := by
 have := s2_add h hfit s hr
 rw [h1, h2] at this
 exact this
theorem s2_advK {w0 w : World} {sb : Nat} {now : Int} {L : HL} {v : Value} {q : List Lb.Pr} (h : S2 w0 w sb now L v q) (m : Int) {n' : Int} {L' : HL} (h1 : onw now m = n') (h2 : advL n' L = L') :
  Calls Tryz.prog 11 #[.pointer (some ⟨sb, 0, none⟩), .int .i64 m] w fun e w' => e = .returned (.tuple #[]) ∧ S2 w0 w' sb n' L' v q := by
 have := s2_adv h m
 rw [h1, h2] at this
 exact this
theorem s2_len {w0 w : World} {sb : Nat} {now : Int} {L : HL} {v : Value} {q : List Lb.Pr} (h : S2 w0 w sb now L v q) : Calls Tryz.prog 19 #[.pointer (some ⟨sb, 0, none⟩)] w fun e w' => e = .returned (.int .i64 L.length) ∧ Below w.heap.size w w' := by
 obtain ⟨F, h1, _⟩ := h
 exact len_so sb now F L w h1
theorem s2_now {w0 w : World} {sb : Nat} {now : Int} {L : HL} {v : Value} {q : List Lb.Pr} (h : S2 w0 w sb now L v q) : Calls Tryz.prog 17 #[.pointer (some ⟨sb, 0, none⟩)] w fun e w' => e = .returned (.int .i64 now) ∧ Below w.heap.size w w' := by
 obtain ⟨F, h1, _⟩ := h
 exact now_so sb now F L w h1
theorem s2_last {w0 w : World} {sb : Nat} {now : Int} {L : HL} {v : Value} {q : List Lb.Pr} (h : S2 w0 w sb now L v q) :
  Calls Tryz.prog 25 #[.pointer (some ⟨sb, 0, none⟩), v] w fun e w' => e = .returned (.tuple #[sv (lst (addAll 10 now [] (smpL q L))), .bool (!(addAll 10 now [] (smpL q L)).isEmpty)]) ∧ Below w.heap.size w w' := by
 obtain ⟨F, h1, ⟨xa, xn, xc, rfl, hxn, hps, _⟩, _⟩ := h
 exact last_so sb now F L xa xn xc q w h1 hxn hps
theorem s2_over {w0 w : World} {sb : Nat} {now : Int} {L : HL} {v : Value} {q : List Lb.Pr} (h : S2 w0 w sb now L v q) (name : Value) (a1 : Bool) (a2 : Int) (a3 : Bool) (d : Int)
  (htell : ∀ rb W, St W rb (addAll (wd d) now [] (smpL q L)) (wd d) now → Calls Tryz.prog 55 #[pv rb (wd d) now, name] W fun e w' => e = .returned (.tuple #[.agg #[.bool a1, .int .i64 a2], .bool a3]) ∧ Below W.heap.size W w') :
  Calls Tryz.prog 21 #[.pointer (some ⟨sb, 0, none⟩), v, name, .int .i64 d] w fun e w' => e = .returned (.tuple #[.agg #[.bool a1, .int .i64 a2], .bool a3]) ∧ Below w.heap.size w w' := by
 obtain ⟨F, h1, ⟨xa, xn, xc, rfl, hxn, hps, _⟩, _⟩ := h
 exact over_so name a1 a2 a3 sb now F L xa xn xc q d w h1 hxn hps htell
theorem s2_sets {w0 w : World} {sb : Nat} {now : Int} {L : HL} {v : Value} {q : List Lb.Pr} (h : S2 w0 w sb now L v q) (mo : Option Addr) (mn mc : Nat) (m : List Lb.Mat) (hmn : mn ≤ 1000000) (hm : Lb.Ms w mo mn m) (hg : Lb.FitM m) :
  Calls Tryz.prog 26 #[.pointer (some ⟨sb, 0, none⟩), .slice mo mn mc] w fun e w' => ∃ u, e = .returned u ∧ Qs w' w.heap.size u (setsL m L) ∧ Below w.heap.size w w' := by
 obtain ⟨F, h1, _⟩ := h
 exact sets_so sb now F L mo mn mc m w h1 hmn hm hg
theorem own_new (w : World) (n c : Nat) : ∀ g, (Value.slice (some ⟨w.heap.size, 0, none⟩) n c).ownBlock = some g → w.heap.size ≤ g := by
 intro g hg
 have : g = w.heap.size := by simpa [Value.ownBlock] using hg.symm
 omega
/-- A set of one pair, of two, made. -/
theorem set_one (w : World) (a b : Lb.Str) : Pq (w.alloc (.cells #[Lb.tx a, Lb.tx b] 45)) (.slice (some ⟨w.heap.size, 0, none⟩) 1 1) [(a, b)] := by
 refine ⟨_, _, _, rfl, by omega, ⟨rfl, fun _ => ⟨w.heap.size, 0, rfl, fun j hj => ?_⟩⟩, fun g hg => ?_⟩
 ·
  obtain rfl : j = 0 := by omega
  constructor <;> simp [go_sem]
 ·
  have : g = w.heap.size := by simpa [Value.ownBlock] using hg.symm
  rw [this]
  exact Ty.new _ _ _
theorem new_s2 (w0 w : World) (h : Below w0.heap.size w0 w) : Calls Tryz.prog 10 #[] w fun e w' => e = .returned (.pointer (some ⟨w.heap.size, 0, none⟩)) ∧ S2 w0 w' w.heap.size 0 [] (.slice none 0 0) [] := by
 refine (new_so w).mono ?_
 rintro e w' ⟨h1, h2, h3⟩
 exact ⟨h1, _, h2, pq_nil _, fun g e => by simp [Value.ownBlock] at e, fun k hk => by have := h.size; omega, Below.chain h h3⟩
end Go.Proofs.YtjgckfcocmhnhaaGreatDoor.Sr
namespace Go.Proofs.YtjgckfcocmhnhaaGreatDoor.Sr
open Go.RowKit Rn
/-- The law's set of a name and a byte. -/
def sq (name : Lb.Str) (u : UInt8) : List Lb.Pr := [([95, 95, 110, 97, 109, 101, 95, 95], name), ([118], [u])]
end Go.Proofs.YtjgckfcocmhnhaaGreatDoor.Sr
