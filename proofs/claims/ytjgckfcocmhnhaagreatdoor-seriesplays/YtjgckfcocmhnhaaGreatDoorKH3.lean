/- Texts that the others lean on. -/
import Derived.Test.YtjgckfcocmhnhaaGreatDoorKH2
import Derived.Laws.CopyRow
import Derived.Laws.IdiomCopy
import Derived.Deep.AppendLies
namespace Go.Proofs.YtjgckfcocmhnhaaGreatDoor.Hy
open Go.RowKit
theorem Gf.cell {w w' : World} {F : Nat → Prop} (h : Gf w w' F) {b o : Nat} {v : Value} (hc : w.cell? ⟨b, o, none⟩ = some v) (hf : ¬ F b) : w'.cell? ⟨b, o, none⟩ = some v :=
 (World.cell?_of_block (a := ⟨b, o, none⟩) (h.block b (World.block_lt_of_cell? _ _ hc) hf)).trans hc
theorem Ty.gf {w w' : World} {F : Nat → Prop} {b : Nat} {e : TypeId} (ht : Ty w b e) (h : Gf w w' F) (hf : ¬ F b) : Ty w' b e := by
 have hlt := ht.lt
 obtain ⟨c, f, ht⟩ := ht
 exact ⟨c, f, (h.block b hlt hf).trans ht⟩
theorem row_gf {w w' : World} {F : Nat → Prop} {base : Nat} {e : TypeId} {size : Nat} {v : Value} {n : Nat} {xs : List Value} (h : w.ownsRow base e size v n xs) (hg : Gf w w' F) (hne : ∀ g, v.ownBlock = some g → ¬ F g) : w'.ownsRow base e size v n xs := by
 rcases h with ⟨hl, ⟨hv, h0⟩ | ⟨g, cap, cur, hv, hb, hgc, hn, hm, hs, ht⟩⟩
 ·
  exact ⟨hl, Or.inl ⟨hv, h0⟩⟩
 ·
  have hlt : g < w.heap.size := by
   rcases Nat.lt_or_ge g w.heap.size with hlt | hge
   ·
    exact hlt
   ·
    rw [Array.getElem?_eq_none hge] at hgc; cases hgc
  exact ⟨hl, Or.inr ⟨g, cap, cur, hv, hb, (hg.block g hlt (hne g (by rw [hv]; rfl))).trans hgc, hn, hm, hs, ht⟩⟩
theorem Rw.gf {w w' : World} {base : Nat} {r : Rec} {F : Nat → Prop} (h : Rw w base r) (hg : Gf w w' F) (h1 : ¬ F r.1) (h2 : ∀ g, (sl r).ownBlock = some g → ¬ F g) : Rw w' base r :=
 have ho := row_gf h.o hg h2
 ⟨⟨⟨hg.cell h.m.s.c0 h1, hg.cell h.m.s.c1 h1⟩, Ms.of_own ho, h.m.n⟩, ho, (World.frozen?_of_block (a := ⟨r.1, 1, none⟩) (hg.block r.1 h.t.lt h1)).trans h.f, h.t.gf hg h1⟩
theorem Hx.insert {w w9 : World} {hb : Nat} {now : Int} {base : Nat} {ao : Option Addr} {n cap : Nat} {rs : List Rec} (h : Hx w hb now base ao n cap rs)
  (hg : Gf w w9 (fun k => k = hb ∨ (Value.slice ao n cap).ownBlock = some k)) (k : Nat) {x : Rec} {a' : Option Addr} {c' : Nat}
  (c0 : w9.cell? ⟨hb, 0, none⟩ = some (.int .i64 now)) (c1 : w9.cell? ⟨hb, 1, none⟩ = some (.slice a' (n + 1) c')) (f0 : w9.frozen? ⟨hb, 0, none⟩ = false) (f1 : w9.frozen? ⟨hb, 1, none⟩ = false) (t : Ty w9 hb 30)
  (hp : OwnP w9 base (.slice a' (n + 1) c') (rs.take k ++ x :: rs.drop k)) (hx : Rw w9 base x) (hx1 : w.heap.size ≤ x.1) (hx2 : ∀ g, (sl x).ownBlock = some g → w.heap.size ≤ g) (hn : n + 1 ≤ 1000000) :
  Hx w9 hb now base a' (n + 1) c' (rs.take k ++ x :: rs.drop k) := by
 have hsub : ∀ r ∈ rs, Rw w9 base r := fun r hr => by
  have hr0 := h.r r hr
  refine hr0.gf hg ?_ ?_
  ·
   rintro (e | e)
   ·
    exact hr0.t.ne h.t (by decide) e
   ·
    exact (row_ty h.p e).ne hr0.t (by decide) rfl
  ·
   rintro g e1 (e | e)
   ·
    exact (row_ty hr0.o e1).ne h.t (by decide) e
   ·
    exact (row_ty hr0.o e1).ne (row_ty h.p e) (by decide) rfl
 have hxr : ∀ r ∈ rs, Ap x r := fun r hr => by
  have hr0 := h.r r hr
  refine ⟨fun e => ?_, fun g e1 e2 => ?_⟩
  ·
   have := hr0.t.lt
   omega
  ·
   have := hx2 g e1
   have := hr0.o.block e2
   omega
 have hsp : (rs.take k ++ rs.drop k).Pairwise Ap := by rw [List.take_append_drop]; exact h.a
 obtain ⟨p1, p2, p3⟩ := List.pairwise_append.1 hsp
 refine ⟨c0, c1, f0, f1, t, hp, ?_, ?_, h.now_, hn⟩
 ·
  intro r hr
  rcases List.mem_append.1 hr with e | e
  ·
   exact hsub r (List.mem_of_mem_take e)
  ·
   rcases List.mem_cons.1 e with e | e
   ·
    rw [e]; exact hx
   ·
    exact hsub r (List.mem_of_mem_drop e)
 ·
  refine List.pairwise_append.2 ⟨p1, List.pairwise_cons.2 ⟨fun r hr => hxr r (List.mem_of_mem_drop hr), p2⟩, fun a ha b hb => ?_⟩
  rcases List.mem_cons.1 hb with e | e
  ·
   rw [e]; exact (hxr a (List.mem_of_mem_take ha)).symm
  ·
   exact p3 a ha b e
theorem grown_setRow (w : World) (g : Nat) (cs : Array Value) : w.grownBy (w.setRow g cs) (some g) := ⟨rfl, rfl, rfl, by simp [World.setRow], fun k _ hk => setRow_other w g k cs (fun e => hk (by rw [e]))⟩
/-- The pointers from place k on one place further. -/
theorem own_shift {w : World} {base g c n : Nat} {L : List Value} {z : Value} (h : w.ownsRow base 89 1 (.slice (some ⟨g, 0, none⟩) (n + 1) c) (n + 1) (L ++ [z])) {k : Nat} (hk : k < n) :
  ∃ (cur : Array Value) (y : Value), w.heap[g]? = some (.cells cur 89 (0, 0)) ∧ (L.drop k).length = n - k ∧ k + 1 + (L.drop k).length ≤ cur.size ∧
   (w.setRow g (cur.toList.take (k + 1) ++ L.drop k ++ cur.toList.drop (k + 1 + (L.drop k).length)).toArray).ownsRow base 89 1 (.slice (some ⟨g, 0, none⟩) (n + 1) c) (n + 1) (L.take k ++ y :: L.drop k) := by
 obtain ⟨hl, ⟨e, _⟩ | ⟨g', cap, cur, e, hb, hg, hn, hm, hs, ht⟩⟩ := h
 ·
  cases e
 ·
  cases e
  have hln : L.length = n := by simpa using hl
  have hd : (L.drop k).length = n - k := by rw [List.length_drop, hln]
  refine ⟨cur, (L.drop k).headD z, hg, hd, by omega, ?_⟩
  have hA : cur.toList.take (k + 1) = L.take k ++ [(L.drop k).headD z] := by
   have e1 : cur.toList.take (k + 1) = (cur.toList.take ((n + 1) * 1)).take (k + 1) := by rw [List.take_take]; congr 1; omega
   rw [e1, ht, List.take_append_of_le_length (by omega), List.take_succ_eq_append_getElem (by omega), ← List.getElem_cons_drop (i := k) (by omega : k < L.length)]
   rfl
  refine ⟨by simp; omega, Or.inr ⟨g, c, _, rfl, hb, setRow_heap w g cur _ 89 _ hg, hn, hm, ?_, ?_⟩⟩
  ·
   rw [List.size_toArray, List.length_append, List.length_append, hd, List.length_take, List.length_drop, Array.length_toList, hs]
   omega
  ·
   show (cur.toList.take (k + 1) ++ L.drop k ++ _).take ((n + 1) * 1) = _
   rw [hA, List.take_append_of_le_length (by simp; omega), List.take_of_length_le (by simp; omega)]
   simp
theorem own_lay {w : World} {base g c n : Nat} {A B : List Value} {z : Value} (h : w.ownsRow base 89 1 (.slice (some ⟨g, 0, none⟩) (n + 1) c) (n + 1) (A ++ z :: B)) {k : Nat} (hk : A.length = k) (v : Value) :
  (w.setCell ⟨g, k, none⟩ v).ownsRow base 89 1 (.slice (some ⟨g, 0, none⟩) (n + 1) c) (n + 1) (A ++ v :: B) := by
 obtain ⟨hl, ⟨e, _⟩ | ⟨g', cap, cur, e, hb, hg, hn, hm, hs, ht⟩⟩ := h
 ·
  cases e
 ·
  cases e
  rw [setCell_eq_setRow w g k cur 89 (0, 0) _ hg]
  refine ⟨by simpa using hl, Or.inr ⟨g, c, _, rfl, hb, setRow_heap w g cur _ 89 _ hg, hn, hm, by simp [hs], ?_⟩⟩
  rw [Array.toList_setIfInBounds, List.take_set, ht, ← hk]
  simp
end Go.Proofs.YtjgckfcocmhnhaaGreatDoor.Hy
namespace Go.Proofs.YtjgckfcocmhnhaaGreatDoor.Hy
open Go.RowKit
/-- A history whose row of pointers is being changed. -/
structure Md (w : World) (hb : Nat) (now : Int) (base g n c : Nat) (xs : List Value) : Prop where
 c0 : w.cell? ⟨hb, 0, none⟩ = some (.int .i64 now)
 c1 : w.cell? ⟨hb, 1, none⟩ = some (.slice (some ⟨g, 0, none⟩) (n + 1) c)
 f0 : w.frozen? ⟨hb, 0, none⟩ = false
 f1 : w.frozen? ⟨hb, 1, none⟩ = false
 t : Ty w hb 30
 o : w.ownsRow base 89 1 (.slice (some ⟨g, 0, none⟩) (n + 1) c) (n + 1) xs
theorem Md.kept {w w' : World} {hb : Nat} {now : Int} {base g n c : Nat} {xs : List Value} (h : Md w hb now base g n c xs) {row : Option Nat} (hg : w.grownBy w' row) (h1 : some hb ≠ row) (h2 : some g ≠ row) : Md w' hb now base g n c xs :=
 ⟨grown_cell hg h.c0 h1, grown_cell hg h.c1 h1, grown_frozen hg h.t.lt h.f0 h1, grown_frozen hg h.t.lt h.f1 h1, h.t.kept hg h1, row_kept h.o hg (fun k hk => by
  have : g = k := by simpa [Value.ownBlock] using hk
  rw [← this]; exact h2)⟩
theorem Md.later {w w' : World} {hb : Nat} {now : Int} {base g n c : Nat} {xs : List Value} (h : Md w hb now base g n c xs) (hb' : Below w.heap.size w w') : Md w' hb now base g n c xs := h.kept (grown_below hb' none) (by simp) (by simp)
theorem Md.ne {w : World} {hb : Nat} {now : Int} {base g n c : Nat} {xs : List Value} (h : Md w hb now base g n c xs) : some hb ≠ some g := fun e => h.t.ne (row_ty h.o rfl) (by decide) (by injection e)
theorem Md.start {w w8 : World} {hb : Nat} {now : Int} {base : Nat} {ao : Option Addr} {n cap : Nat} {rs : List Rec} (h : Hx w hb now base ao n cap rs) {g c : Nat} {xs : List Value}
  (ho : w8.ownsRow base 89 1 (.slice (some ⟨g, 0, none⟩) (n + 1) c) (n + 1) xs) (hg : w.grownBy w8 (Value.slice ao n cap).ownBlock) :
  Md (w8.setCell ⟨hb, 1, none⟩ (.slice (some ⟨g, 0, none⟩) (n + 1) c)) hb now base g n c xs := by
 have hne : some hb ≠ (Value.slice ao n cap).ownBlock := fun e => (row_ty h.p e.symm).ne h.t (by decide) rfl
 have ht8 := h.t.kept hg hne
 have hc1 := grown_cell hg h.c1 hne
 refine ⟨(set_ne (by omega)).trans (grown_cell hg h.c0 hne), set_same hc1, by simpa using grown_frozen hg h.t.lt h.f0 hne, by simpa using grown_frozen hg h.t.lt h.f1 hne, ht8.set _ _, ?_⟩
 exact row_kept ho (grown_set w8 hb 1 _) (row_ne ho ht8 (by decide))
theorem Md.shift {w : World} {hb : Nat} {now : Int} {base g n c : Nat} {L : List Value} {z : Value} (h : Md w hb now base g n c (L ++ [z])) {k : Nat} (hk : k < n) :
  ∃ (cur : Array Value) (y : Value), w.heap[g]? = some (.cells cur 89 (0, 0)) ∧ (L.drop k).length = n - k ∧ k + 1 + (L.drop k).length ≤ cur.size ∧
   Md (w.setRow g (cur.toList.take (k + 1) ++ L.drop k ++ cur.toList.drop (k + 1 + (L.drop k).length)).toArray) hb now base g n c (L.take k ++ y :: L.drop k) := by
 obtain ⟨cur, y, h1, h2, h3, h4⟩ := own_shift h.o hk
 have hg := grown_setRow w g (cur.toList.take (k + 1) ++ L.drop k ++ cur.toList.drop (k + 1 + (L.drop k).length)).toArray
 exact ⟨cur, y, h1, h2, h3, grown_cell hg h.c0 h.ne, grown_cell hg h.c1 h.ne, grown_frozen hg h.t.lt h.f0 h.ne, grown_frozen hg h.t.lt h.f1 h.ne, h.t.kept hg h.ne, h4⟩
theorem Md.lay {w : World} {hb : Nat} {now : Int} {base g n c : Nat} {A B : List Value} {z : Value} (h : Md w hb now base g n c (A ++ z :: B)) {k : Nat} (hk : A.length = k) (v : Value) :
  Md (w.setCell ⟨g, k, none⟩ v) hb now base g n c (A ++ v :: B) :=
 have hg := grown_set w g k v
 ⟨grown_cell hg h.c0 h.ne, grown_cell hg h.c1 h.ne, grown_frozen hg h.t.lt h.f0 h.ne, grown_frozen hg h.t.lt h.f1 h.ne, h.t.kept hg h.ne, own_lay h.o hk v⟩
theorem Md.src {w : World} {hb : Nat} {now : Int} {base g n c : Nat} {L : List Value} {z : Value} (h : Md w hb now base g n c (L ++ [z])) (k : Nat) : ∀ j v, (L.drop k)[j]? = some v → w.cell? ((⟨g, k, none⟩ : Addr).add j) = some v := by
 intro j v hv
 rw [List.getElem?_drop] at hv
 have := World.ownsRow.cells h.o (g := g) rfl (k + j) v (by rw [List.getElem?_append_left (by rcases Nat.lt_or_ge (k + j) L.length with h | h; exact h; rw [List.getElem?_eq_none h] at hv; cases hv)]; exact hv)
 rw [Addr.add_lit] at this ⊢
 rw [Nat.zero_add] at this
 exact this
theorem Md.cap {w : World} {hb : Nat} {now : Int} {base g n c : Nat} {xs : List Value} (h : Md w hb now base g n c xs) : n + 1 ≤ c := by
 rcases h.o.2 with ⟨e, _⟩ | ⟨g', cap, cur, e, _, _, hn, _⟩
 ·
  cases e
 ·
  cases e
  exact hn
theorem Md.at_ {w : World} {hb : Nat} {now : Int} {base g n c : Nat} {xs : List Value} (h : Md w hb now base g n c xs) {k : Nat} (hk : k ≤ n) : ∃ v, w.cell? ⟨g, k, none⟩ = some v := by
 have hl := h.o.1
 have := World.ownsRow.cells h.o (g := g) rfl k (xs[k]'(by omega)) (List.getElem?_eq_getElem _)
 rw [Addr.add_lit, Nat.zero_add] at this
 exact ⟨_, this⟩
theorem Md.open_ {w : World} {hb : Nat} {now : Int} {base g n c : Nat} {xs : List Value} (h : Md w hb now base g n c xs) (k : Nat) : w.frozen? ⟨g, k, none⟩ = false := by
 rcases h.o.2 with ⟨e, _⟩ | ⟨g', cap, cur, e, _, hg, hn, _⟩
 ·
  cases e
 ·
  cases e
  simp [World.frozen?, hg]
theorem step_copy1 {ops : Array Oper} {o : Oper} {a : Act} {W : World} {K : Act → World → Prop} {Q : Exit → Act → World → Prop} {E : Prop} (s x : Operand) (d : Option Tmp)
  (ho : o.op = .call { callee := .builtin .copy, args := #[s, x], argTypes := #[28, 28] }) (hd : o.dst = d) (ht : o.type = 3) (hw : Region.wanted o (yielded ops a.tmps) = true)
  (u v : Value) (hs : a.eval s = u) (hx : a.eval x = v) {r : Value} {W' : World} (hr : (Builtin.copy_ #[28, 28] 3 #[u, v]).run Tryz.prog W = .ok r W') (h : K (a.put d r) W') :
  if Region.wanted o (yielded ops a.tmps) = true then Oper.wp Tryz.prog o a W K Q else E := by
 subst hd
 rw [if_pos hw]
 unfold Oper.wp
 simp [execOp, ho, ht, resolve, invoke, builtin, hs, hx, hr, Result.andThen]
 exact h
/-- An append to a slice of pairs, run. -/
theorem step_append1 {ops : Array Oper} {o : Oper} {a : Act} {W : World} {K : Act → World → Prop} {Q : Exit → Act → World → Prop} {E : Prop} (s x : Operand) (d : Option Tmp)
  (ho : o.op = .call { callee := .builtin .append, args := #[s, x], argTypes := #[31, 31] }) (hd : o.dst = d) (ht : o.type = 31) (hw : Region.wanted o (yielded ops a.tmps) = true)
  (u v : Value) (hs : a.eval s = u) (hx : a.eval x = v) {r : Value} {W' : World} (hr : (Builtin.append_ #[31, 31] 31 #[u, v]).run Tryz.prog W = .ok r W') (h : K (a.put d r) W') :
  if Region.wanted o (yielded ops a.tmps) = true then Oper.wp Tryz.prog o a W K Q else E := by
 subst hd
 rw [if_pos hw]
 unfold Oper.wp
 simp [execOp, ho, ht, resolve, invoke, builtin, hs, hx, hr, Result.andThen]
 exact h
/-- Where a cut of the row from place i on lies. -/
def cutP (g c i : Nat) : Addr := if c = i then ⟨g, 0, none⟩ else ⟨g, i, none⟩
theorem infoP1 : (Tryz.prog.info? 89).map (·.size) = some 1 := by kernel_rfl
/-- The pointers from place k on, copied one place further. -/
theorem Md.copied {w : World} {hb : Nat} {now : Int} {base g n c : Nat} {L : List Value} {z : Value} (h : Md w hb now base g n c (L ++ [z])) {k : Nat} (hk : k ≤ n) (hL : ∀ v ∈ L, v.oneCell' = true) :
  ∃ w' y, (Builtin.copy_ #[28, 28] 3 #[.slice (some (cutP g c (k + 1))) (n + 1 - (k + 1)) (c - (k + 1)), .slice (some (cutP g c k)) (n + 1 - k) (c - k)]).run Tryz.prog w = .ok (.int .i64 ((n - k : Nat) : Int)) w' ∧ Md w' hb now base g n c (L.take k ++ y :: L.drop k) ∧ w.grownBy w' (some g) := by
 have hcap := h.cap
 have hln : L.length = n := by simpa using h.o.1
 by_cases e : k = n
 ·
  subst e
  refine ⟨w, z, ?_, ?_, grown_below (Below.refl _ _) _⟩
  ·
   rw [run_copy_none (P := Tryz.prog) w 28 28 3 89 _ _ _ _ _ _ Tryz.underlying28 infoP1 (by show min (k + 1 - k) (k + 1 - (k + 1)) = 0; omega), Nat.sub_self]
   rfl
  ·
   rw [List.take_of_length_le (by omega), List.drop_eq_nil_of_le (by omega)]
   exact h
 ·
  obtain ⟨cur, y, h1, h2, h3, h4⟩ := h.shift (by omega : k < n)
  refine ⟨_, y, ?_, h4, grown_setRow _ _ _⟩
  have e1 : cutP g c (k + 1) = ⟨g, k + 1, none⟩ := by unfold cutP; rw [if_neg (by omega)]
  have e2 : cutP g c k = ⟨g, k, none⟩ := by unfold cutP; rw [if_neg (by omega)]
  rw [e1, e2, run_copy_row (P := Tryz.prog) w 28 28 3 89 g (k + 1) _ _ ⟨g, k, none⟩ _ _ cur 89 (L.drop k) Tryz.underlying28 infoP1 h1 (by rw [h2]; show n - k = min (n + 1 - k) (n + 1 - (k + 1)); omega) (h.src k) h3 (fun v hv => hL v (List.mem_of_mem_drop hv)), h2]
  rfl
end Go.Proofs.YtjgckfcocmhnhaaGreatDoor.Hy
namespace Go.Proofs.YtjgckfcocmhnhaaGreatDoor.Hy
open Go.RowKit
theorem one_own (w : World) (base : Nat) (s : Smp) (hb : base ≤ w.heap.size) : Own (w.alloc (.cells #[.int .i64 s.1, .bool s.2.1, .int .i64 s.2.2] 35)) base (.slice (some ⟨w.heap.size, 0, none⟩) 1 1) [s] :=
 ⟨rfl, Or.inr ⟨w.heap.size, 1, _, rfl, hb, heap_alloc_new w _, Nat.le_refl _, by unfold maxLen; omega, rfl, rfl⟩⟩
theorem Rw.new (w : World) (base : Nat) (lv : Value) (gs : Nat) (s : Smp) (hO : Own w base (.slice (some ⟨gs, 0, none⟩) 1 1) [s]) : Rw (w.alloc (.cells #[lv, .slice (some ⟨gs, 0, none⟩) 1 1] 94)) base (w.heap.size, lv, some ⟨gs, 0, none⟩, 1, 1, [s]) :=
 have hO2 := hO.later (bal (Below.refl _ w) (.cells #[lv, .slice (some ⟨gs, 0, none⟩) 1 1] 94))
 ⟨⟨⟨by simp [go_sem], by simp [go_sem]⟩, Ms.of_own hO2, by show (0 : Nat) < 1; omega, by show (1 : Nat) ≤ 1000000; omega⟩, hO2, by simp [go_sem], Ty.new _ _ _⟩
/-- What Add leaves of a new series. -/
def Ins (w w' : World) (hb : Nat) (now : Int) (base : Nat) (ao : Option Addr) (n cap : Nat) (rs : List Rec) (k : Nat) (s : Smp) (qn : Nat) (cs : List Value) : Prop :=
 ∃ lv g c' p gs, Hx w' hb now base (some ⟨g, 0, none⟩) (n + 1) c' (rs.take k ++ (p, lv, some ⟨gs, 0, none⟩, 1, 1, [s]) :: rs.drop k) ∧ w'.ownsRow w.heap.size 45 2 lv qn cs ∧ ((Value.slice ao n cap).ownBlock = some g ∨ w.heap.size ≤ g) ∧ w.heap.size ≤ p ∧ w.heap.size ≤ gs ∧ Gf w w' (fun x => x = hb ∨ (Value.slice ao n cap).ownBlock = some x)
theorem Md.done {w W : World} {hb : Nat} {now : Int} {base : Nat} {ao : Option Addr} {n cap : Nat} {rs : List Rec} (h : Hx w hb now base ao n cap rs) {k g c gs qn : Nat} {z lv : Value} {s : Smp} {cs : List Value} (hk : k ≤ n) (hn : n + 1 ≤ 1000000) (hm : Md W hb now base g n c ((rs.map pt).take k ++ z :: (rs.map pt).drop k))
  (hg : Gf w W (fun x => x = hb ∨ (Value.slice ao n cap).ownBlock = some x)) (hgo : (Value.slice ao n cap).ownBlock = some g ∨ w.heap.size ≤ g) (hgs : w.heap.size ≤ gs) (hO : Own W base (.slice (some ⟨gs, 0, none⟩) 1 1) [s]) (hL : W.ownsRow w.heap.size 45 2 lv qn cs) :
  Ins w ((W.alloc (.cells #[lv, .slice (some ⟨gs, 0, none⟩) 1 1] 94)).setCell ⟨g, k, none⟩ (.pointer (some ⟨W.heap.size, 0, none⟩))) hb now base ao n cap rs k s qn cs := by
 have hln : rs.length = n := h.hm.p.1
 have hb1 := bal (Below.refl _ W) (.cells #[lv, .slice (some ⟨gs, 0, none⟩) 1 1] 94)
 have hm1 := hm.later hb1
 have hm2 := hm1.lay (k := k) (by rw [List.length_take, List.length_map]; omega) (.pointer (some ⟨W.heap.size, 0, none⟩))
 have hr1 := Rw.new W base lv gs s hO
 have hty := row_ty hm1.o (g := g) rfl
 have hs := grown_set (W.alloc (.cells #[lv, .slice (some ⟨gs, 0, none⟩) 1 1] 94)) g k (.pointer (some ⟨W.heap.size, 0, none⟩))
 have hr2 := hr1.kept hs (fun e => hr1.t.ne hty (by decide) (by injection e)) (row_ne hr1.o hty (by decide))
 have hL1 := row_kept hL (grown_below hb1 none) (fun _ _ => by simp)
 have hL2 := row_kept hL1 hs (row_ne hL1 hty (by decide))
 have hG : Gf w ((W.alloc (.cells #[lv, .slice (some ⟨gs, 0, none⟩) 1 1] 94)).setCell ⟨g, k, none⟩ (.pointer (some ⟨W.heap.size, 0, none⟩))) (fun x => x = hb ∨ (Value.slice ao n cap).ownBlock = some x) :=
  (hg.step (grown_below hb1 none) (by simp)).step hs (fun x e hx => by
   injection e with e
   subst e
   rcases hgo with e2 | e2
   ·
    exact Or.inr e2
   ·
    omega)
 refine ⟨lv, g, c, W.heap.size, gs, ?_, hL2, hgo, hg.size, hgs, hG⟩
 have hOP : OwnP ((W.alloc (.cells #[lv, .slice (some ⟨gs, 0, none⟩) 1 1] 94)).setCell ⟨g, k, none⟩ (.pointer (some ⟨W.heap.size, 0, none⟩))) base (.slice (some ⟨g, 0, none⟩) (n + 1) c) (rs.take k ++ (W.heap.size, lv, some ⟨gs, 0, none⟩, 1, 1, [s]) :: rs.drop k) := by
  unfold OwnP
  have e1 : (rs.take k ++ (W.heap.size, lv, some ⟨gs, 0, none⟩, 1, 1, [s]) :: rs.drop k).length = n + 1 := by simp; omega
  have e2 : (rs.take k ++ (W.heap.size, lv, some ⟨gs, 0, none⟩, 1, 1, [s]) :: rs.drop k).map pt = (rs.map pt).take k ++ Value.pointer (some ⟨W.heap.size, 0, none⟩) :: (rs.map pt).drop k := by
   rw [List.map_append, List.map_cons, List.map_take, List.map_drop]
   rfl
  rw [e1, e2]
  exact hm2.o
 refine h.insert hG k hm2.c0 hm2.c1 hm2.f0 hm2.f1 hm2.t hOP hr2 hg.size (fun x e => ?_) hn
 have : gs = x := by simpa [Value.ownBlock] using e
 omega
set_option maxHeartbeats 16000000 in
set_option maxRecDepth 100000 in
theorem add_new (hb : Nat) (now : Int) (ao : Option Addr) (n cap : Nat) (rs : List Rec) (q : Value) (t : Int) (xo : Bool) (xn : Int) (S : Nat → Bool) (w : World) (base : Nat) (hx : Hx w hb now base ao n cap rs)
  (C : Nat → Int) (k : Nat) (qn : Nat) (cs : List Value)
  (hcmp : ∀ j, j < n → ∀ W, Below w.heap.size w W → Calls Tryz.prog 43 #[(rs.getD j r0).2.1, q] W fun e w' => e = .returned (.int .i64 (C j)) ∧ Below W.heap.size W w')
  (hap : ∀ W, Gf w W (fun x => x = hb ∨ (Value.slice ao n cap).ownBlock = some x) → ∃ lv W', (Builtin.append_ #[31, 31] 31 #[.slice none 0 0, q]).run Tryz.prog W = .ok lv W' ∧ W'.ownsRow w.heap.size 45 2 lv qn cs ∧ Below W.heap.size W W')
  (hk : k ≤ n) (hlt : ∀ i, i < k → C i < 0) (hge : k < n → 0 ≤ C k)
  (his : ∀ W, Below w.heap.size w W → Calls Tryz.prog 37 #[q] W fun e w' => e = .returned (.bool true) ∧ Below W.heap.size W w') (hsame : ∀ j, j < n → ∀ W, Below w.heap.size w W → Calls Tryz.prog 45 #[(rs.getD j r0).2.1, q] W fun e w' => e = .returned (.bool (S j)) ∧ Below W.heap.size W w') (ht : 0 ≤ t ∧ t ≤ now ∧ now - 100 < t) (hF : Fst S n none) (hlv : lvN now rs n < 16) (hxn : R64 xn) (hn1 : n + 1 ≤ 1000000) (hbase : base ≤ w.heap.size) :
  Calls Tryz.prog 14 #[.pointer (some ⟨hb, 0, none⟩), q, sv (t, xo, xn)] w fun e w' => e = .returned (.int .i64 0) ∧ Ins w w' hb now base ao n cap rs k (t, ov (cnt xo xn), nn (cnt xo xn)) qn cs := by
 have h := hx.hm
 have hb0 := bal (Below.refl _ w) (.cells #[.int .i64 t, .bool xo, .int .i64 xn] 35)
 have hB := BoxS.new w (t, xo, xn)
 have HM : Hid (∀ W, Below w.heap.size w W → Hm W hb now ao n cap rs) := fun W hW => h.later hW
 have hnow := h.now_
 have hn6 := h.n_
 have EW : Hid (wrap64 (now - 100) = now - 100) := by show _ = _; unfold wrap64; omega
 have hw0 := (HM.out _ hb0).c0
 have hfi := fun W (hW : Below w.heap.size w W) => find_any hb now ao n cap rs q S W (HM.out W hW) (fun j hj W2 hW2 => hsame j hj W2 (Below.chain hW hW2))
 have hrl : rs.length = n := h.p.1
 have hno := fun W => rnorm_any xo xn W hxn
 have HX : Hid (∀ W, Below w.heap.size w W → Hx W hb now base ao n cap rs) := fun W hW => hx.later hW
 have HC1 : Hid (∀ W, Below w.heap.size w W → W.cell? ⟨hb, 1, none⟩ = some (.slice ao n cap)) := fun W hW => (HM.out W hW).c1
 have HBh : Hid (w.heap.size ≠ hb) := by have := hx.t.lt; show _ ≠ _; omega
 have HOb : Hid (∀ x, (Value.slice ao n cap).ownBlock = some x → w.heap.size ≠ x) := fun x e => by have := (row_ty hx.p e).lt; omega
 have HH : Hid (Hx w hb now base ao n cap rs) := hx
 have hli := fun W (hW : Below w.heap.size w W) => live_any hb now ao n cap rs W (HM.out W hW)
 have hle := lvN_le now rs n
 clear h hx
 have d1 : decide (t < 0) = false := decide_eq_false (by omega)
 have d2 : decide (now < t) = false := decide_eq_false (by omega)
 have d3 : decide (t ≤ now - 100) = false := decide_eq_false (by omega)
 go_enter Tryz.func14, Tryz.ntmps14
 go_wp2_with fail
 refine (his _ hb0).mono ?_
 rintro e w1 ⟨rfl, hb1⟩
 have hb2 := Below.chain hb0 hb1
 have hx1 := hB.later hb1
 have hm1 := (HM.out _ hb2).c0
 clear hw0 hb0 hb1 hB
 obtain ⟨x0, x1, x2, g0, g1, g2⟩ := id hx1
 dsimp only at x0 x1 x2
 have e1 := EW.out
 go_wp2_with fail
 go_quiet (fail)
 generalize hwq : w1.drewN _ = wa
 have hba : Below w.heap.size w wa := by rw [← hwq]; exact below_drewN hb2 _
 have hxa : BoxS wa w.heap.size (t, xo, xn) := by rw [← hwq]; exact hx1.later (below_drewN (Below.refl _ _) _)
 clear hwq hx1 hm1 x0 x1 x2 g0 g1 g2 hb2 d1 d2 d3 e1
 go_wp2_with fail
 refine (hfi _ hba).mono ?_
 rintro e w2 ⟨o2, rfl, hF2, hb2⟩
 obtain rfl := hF2.unique hF
 clear hF2
 have hbb := Below.chain hba hb2
 have hxb : BoxS w2 w.heap.size (t, xo, xn) := hxa.later hb2
 obtain ⟨u, hu⟩ : ∃ u, lvN now rs n = u := ⟨_, rfl⟩
 rw [hu] at hlv hli hle
 have dl : decide ((16 : Int) ≤ (u : Int)) = false := decide_eq_false (by omega)
 dsimp only [ptO]
 go_wp2_with fail
 go_quiet (fail)
 generalize hwq : w2.drewN _ = w3
 have hbc : Below w.heap.size w w3 := by rw [← hwq]; exact below_drewN hbb _
 have hxc : BoxS w3 w.heap.size (t, xo, xn) := by rw [← hwq]; exact hxb.later (below_drewN (Below.refl _ _) _)
 clear hwq
 go_wp2_with fail
 refine (hli _ hbc).mono ?_
 rintro e w5 ⟨rfl, hb5⟩
 have hbe := Below.chain hbc hb5
 have hxe : BoxS w5 w.heap.size (t, xo, xn) := hxc.later hb5
 clear hxa hxb hxc hb5 hbc hbb hba hb2 hu hfi
 obtain ⟨v0, v1, v2, v3, v4, v5⟩ := id hxe
 dsimp only at v0 v1 v2
 go_wp2_with fail
 refine (hno _).mono ?_
 rintro e w6 ⟨rfl, hb6⟩
 have hx6a : BoxS w6 w.heap.size (t, xo, xn) := hxe.later hb6
 have hb6c : Below w.heap.size w w6 := Below.chain hbe hb6
 obtain ⟨y0, y1, y2, z0, z1, z2⟩ := id hx6a
 dsimp only at y0 y1 y2
 clear v0 v1 v2 v3 v4 v5
 generalize hfo : ov (cnt xo xn) = fo at *
 generalize hfn : nn (cnt xo xn) = fn at *
 have HFo : Hid (ov (cnt xo xn) = fo) := hfo
 have HFn : Hid (nn (cnt xo xn) = fn) := hfn
 clear hfo hfn
 have hx6b : BoxS ((w6.setCell ⟨w.heap.size, 1, none⟩ (.bool fo)).setCell ⟨w.heap.size, 2, none⟩ (.int .i64 fn)) w.heap.size (t, fo, fn) := hx6a.putV fo fn
 have hb6d : Below w.heap.size w ((w6.setCell ⟨w.heap.size, 1, none⟩ (.bool fo)).setCell ⟨w.heap.size, 2, none⟩ (.int .i64 fn)) := (hb6c.setCell (p := ⟨w.heap.size, 1, none⟩) (Nat.le_refl _) _).setCell (p := ⟨w.heap.size, 2, none⟩) (Nat.le_refl _) _
 go_wp2_with fail
 generalize (w6.setCell ⟨w.heap.size, 1, none⟩ (.bool fo)).setCell ⟨w.heap.size, 2, none⟩ (.int .i64 fn) = w7 at *
 clear hx6a y0 y1 y2 z0 z1 z2 hb6c hb6 hno hli
 go_loopw [9] (fun v wr => ∃ j : Nat, Hid (j ≤ n ∧ ∀ i, i < j → C i < 0) ∧ v = .int .i64 j ∧ Below w7.heap.size w7 wr) (fun v _ => n - (intOf v).toNat)
 case atStart => exact ⟨0, ⟨by omega, fun i hi => absurd hi (Nat.not_lt_zero _)⟩, rfl, Below.refl _ _⟩
 case round =>
  obtain ⟨j, HJ, rfl, hbr⟩ := hrel
  have hj := HJ.out.1
  have hb8 := Below.chain hb6d hbr
  have hx8 := hx6b.later hbr
  have h1 := HC1.out _ hb8
  by_cases hlt2 : j < n
  ·
   have hd : decide ((j : Int) < (n : Int)) = true := decide_eq_true (by omega)
   have hh := HM.out _ hb8
   obtain ⟨b, off, hao, hc⟩ := hh.p.all (by omega)
   rw [hao] at h1
   have hcj := hc _ (Below.refl _ _) j hlt2
   have hrm := hh.r _ (getD_memR (by omega : j < rs.length))
   have hc0 := hrm.s.c0
   have hsj := hcmp j hlt2
   clear hh hrm hc
   generalize (rs.getD j r0).2.1 = lv at *
   generalize (rs.getD j r0).1 = P at *
   obtain ⟨CB, hCB⟩ : ∃ CB : Int, C j = CB := ⟨_, rfl⟩
   have HS : Hid (C j = CB) := hCB
   rw [hCB] at hsj
   clear hCB
   go_wp2_with fail
   refine (hsj _ hb8).mono ?_
   rintro e w9 ⟨rfl, hb9⟩
   by_cases hneg : CB < 0
   ·
    have dn : decide (CB < 0) = true := decide_eq_true hneg
    have HJ2 : Hid (j + 1 ≤ n ∧ ∀ i, i < j + 1 → C i < 0) := ⟨hlt2, fun i hi => by
     by_cases e : i = j
     ·
      rw [e, HS.out]; exact hneg
     ·
      exact HJ.out.2 i (by omega)⟩
    go_wp2
    go_roundw
    case rel => exact ⟨j + 1, HJ2, by go_num, Below.chain hbr hb9⟩
    case measure => simp [intOf]; omega
   ·
    have dn : decide (CB < 0) = false := decide_eq_false hneg
    have hjk : j = k := by
     have h2 := HJ.out.2
     rcases Nat.lt_trichotomy j k with e | e | e
     ·
      exact absurd (HS.out ▸ hlt j e) hneg
     ·
      exact e
     ·
      have := hge (by omega); have := h2 k e; omega
    subst hjk
    have hxA := hx8.later hb9
    have hbA := Below.chain hb8 hb9
    clear hcj hc0 hsj hx8 hx6b hb8 hb9 hb6d hbr hneg HS HJ hao
    obtain ⟨i0, hi, hz0, hz1, hz2⟩ := infoP_parts
    have hXA := HX.out _ hbA
    have c1A := hXA.c1
    have hpA : w9.ownsRow base 89 1 (.slice ao n cap) n (rs.map pt) := by have h1 := hXA.p; unfold OwnP at h1; rw [hrl] at h1; exact h1
    have hbl := bal (Below.refl _ w9) (.cells #[.pointer none] 89)
    have hpB := row_kept hpA (grown_below hbl none) (fun _ _ => by simp)
    have hXB := hXA.later hbl
    have hxB := hxA.later hbl
    have hbB := Below.chain hbA hbl
    have hnB := ptr_new w9 (.pointer none)
    have hsB : w.heap.size ≤ w9.heap.size := (Gf.below (F := fun _ => False) hbA).size
    go_wp2_with (at_builtin; go_must (refine wpList_append_lies _ rfl _ _ 28 rfl base 89 i0 (.pointer none) 1 8 Tryz.underlying28 hi hz0 hz1 hz2 zeroP (by decide) _ _ _ rfl hpB ⟨w9.heap.size, 0, none⟩ 1 1 [.pointer none] rfl rfl ?hnews (by intro u hu; rw [List.mem_singleton.1 hu]; rfl) (by decide) ?h63 ?hby ?hbs _ rfl ?_))
    case hnews => first | exact hnB | exact fun i u hu => hu
    case h63 => unfold maxLen; omega
    case hby => omega
    case hbs => simp; omega
    intro g c9 w10 ho10 hg10 hl10 _
    have hmA := Md.start hXB ho10 hg10
    have hG10 : Gf w (w10.setCell ⟨hb, 1, none⟩ (.slice (some ⟨g, 0, none⟩) (n + 1) c9)) (fun x => x = hb ∨ (Value.slice ao n cap).ownBlock = some x) := ((Gf.below hbB).step hg10 (fun x e _ => Or.inr e)).step (grown_set w10 hb 1 _) (fun x e _ => Or.inl (by injection e with e; exact e.symm))
    have hgo : (Value.slice ao n cap).ownBlock = some g ∨ w.heap.size ≤ g := by
     rcases hl10 with e | e
     ·
      exact Or.inl e
     ·
      refine Or.inr ?_
      have : (w9.alloc (.cells #[.pointer none] 89)).heap.size = w9.heap.size + 1 := by simp
      omega
    have hBn : ∀ x, (Value.slice ao n cap).ownBlock = some x → w.heap.size ≠ x := HOb.out
    have hx10 := (hxB.kept hg10 (fun e => hBn _ e.symm rfl)).kept (grown_set w10 hb 1 (.slice (some ⟨g, 0, none⟩) (n + 1) c9)) (fun e => HBh.out (by injection e))
    have q1 := hXB.c1
    have q10 := grown_cell hg10 hXB.c1 (fun e => (row_ty hXB.p e.symm).ne hXB.t (by decide) rfl)
    have q11 := grown_frozen hg10 hXB.t.lt hXB.f1 (fun e => (row_ty hXB.p e.symm).ne hXB.t (by decide) rfl)
    have hgB : w.heap.size ≠ g := by
     rcases hl10 with e | e
     ·
      exact hBn g e
     ·
      have : (w9.alloc (.cells #[.pointer none] 89)).heap.size = w9.heap.size + 1 := by simp
      omega
    have hcap := hmA.cap
    clear hpA hpB hXA hnB c1A hxA hxB hbA hbB hbl hl10
    go_wp2_with fail
    generalize hwq : w10.setCell ⟨hb, 1, none⟩ (.slice (some ⟨g, 0, none⟩) (n + 1) c9) = w11 at *
    clear hwq q1 q10 q11
    have hmC := hmA.later (Below.refl _ w11).drew
    have hxC := hx10.later (Below.refl _ w11).drew
    have hGC := hG10.step (grown_below (Below.refl _ w11).drew none) (by simp)
    obtain ⟨j1, hj1⟩ : ∃ x, x = j + 1 := ⟨_, rfl⟩
    have EJ : Hid (IntKind.i64.wrap ((j : Int) + 1) = (j1 : Int)) := by show _ = _; rw [hj1]; exact (wI (by omega) (by omega)).trans (by omega)
    have hs1 : (if c9 = j1 then some (⟨g, 0, none⟩ : Addr) else some ⟨g, j1, none⟩) = some (cutP g c9 j1) := by unfold cutP; split <;> rfl
    have hs2 : (if c9 = j then some (⟨g, 0, none⟩ : Addr) else some ⟨g, j, none⟩) = some (cutP g c9 j) := by unfold cutP; split <;> rfl
    obtain ⟨w12, y, hcr, hmD, hg12⟩ := hmC.copied (k := j) hj (by intro v hv; obtain ⟨r, _, rfl⟩ := List.mem_map.1 hv; rfl)
    rw [← hj1] at hcr
    generalize cutP g c9 j1 = DA at *
    generalize cutP g c9 j = SA at *
    obtain ⟨m1, hm1⟩ : ∃ m, n + 1 - j1 = m := ⟨_, rfl⟩
    obtain ⟨m2, hm2⟩ : ∃ m, c9 - j1 = m := ⟨_, rfl⟩
    obtain ⟨m3, hm3⟩ : ∃ m, n + 1 - j = m := ⟨_, rfl⟩
    obtain ⟨m4, hm4⟩ : ∃ m, c9 - j = m := ⟨_, rfl⟩
    obtain ⟨m5, hm5⟩ : ∃ m, n - j = m := ⟨_, rfl⟩
    rw [hm1, hm2, hm3, hm4, hm5] at hcr
    have HS1 : Hid (_ = some DA) := hs1
    have HS2 : Hid (_ = some SA) := hs2
    have HM1 : Hid (n + 1 - j1 = m1) := hm1
    have HM2 : Hid (c9 - j1 = m2) := hm2
    have HM3 : Hid (n + 1 - j = m3) := hm3
    have HM4 : Hid (c9 - j = m4) := hm4
    have hj1n : (j1 : Int) ≤ (n : Int) + 1 := by omega
    have hj0n : (j : Int) ≤ (n : Int) + 1 := by omega
    have HC : Hid ((Builtin.copy_ #[28, 28] 3 #[.slice (some DA) m1 m2, .slice (some SA) m3 m4]).run Tryz.prog w11.drew = .ok (.int .i64 m5) w12) := hcr
    clear hs1 hs2 hcr hm1 hm2 hm3 hm4 hm5 hj1 hmA hx10
    have hS0 : (fun W : World => W.cell? ⟨hb, 1, none⟩ = some (Value.slice (some ⟨g, 0, none⟩) (n + 1) c9)) _ := hmC.c1
    refine wp_region_noPanic ?_
    refine wp_region_held_drew (S := fun W : World => W.cell? ⟨hb, 1, none⟩ = some (Value.slice (some ⟨g, 0, none⟩) (n + 1) c9)) (by kernel_rfl) hS0 (fun _ => ?_)
    refine take_at 0 (some 109) (.pointer (some ⟨hb, 0, none⟩)) rfl rfl (by kernel_rfl) (by kernel_rfl) (by kernel_rfl) (fun _ _ _ h => h) (by rfl) (fun W hSw => by have q0 : W.cell? ⟨hb, 1, none⟩ = some (Value.slice (some ⟨g, 0, none⟩) (n + 1) c9) := hSw; go_simp) hS0 ?_
    simp only [Act.put, List.setIfInBounds_toArray, List.set_cons_zero, List.set_cons_succ]
    refine take_at 1 (some 110) (.pointer (some ⟨hb, 0, none⟩)) rfl rfl (by kernel_rfl) (by kernel_rfl) (by kernel_rfl) (fun _ _ _ h => h) (by rfl) (fun W hSw => by have q0 : W.cell? ⟨hb, 1, none⟩ = some (Value.slice (some ⟨g, 0, none⟩) (n + 1) c9) := hSw; go_simp) hS0 ?_
    simp only [Act.put, List.setIfInBounds_toArray, List.set_cons_zero, List.set_cons_succ]
    refine take_at 2 (some 111) (.pointer (some ⟨hb, 1, none⟩)) rfl rfl (by kernel_rfl) (by kernel_rfl) (by kernel_rfl) (fun _ _ _ h => h) (by rfl) (fun W hSw => by have q0 : W.cell? ⟨hb, 1, none⟩ = some (Value.slice (some ⟨g, 0, none⟩) (n + 1) c9) := hSw; go_simp) hS0 ?_
    simp only [Act.put, List.setIfInBounds_toArray, List.set_cons_zero, List.set_cons_succ]
    refine take_at 3 (some 112) (.slice (some ⟨g, 0, none⟩) (n + 1) c9) rfl rfl (by kernel_rfl) (by kernel_rfl) (by kernel_rfl) (fun _ _ _ h => h) (by rfl) (fun W hSw => by have q0 : W.cell? ⟨hb, 1, none⟩ = some (Value.slice (some ⟨g, 0, none⟩) (n + 1) c9) := hSw; go_simp) hS0 ?_
    simp only [Act.put, List.setIfInBounds_toArray, List.set_cons_zero, List.set_cons_succ]
    refine take_at 4 (some 113) (.int .i64 j) rfl rfl (by kernel_rfl) (by kernel_rfl) (by kernel_rfl) (fun _ _ _ h => h) (by rfl) (fun W hSw => by have q0 : W.cell? ⟨hb, 1, none⟩ = some (Value.slice (some ⟨g, 0, none⟩) (n + 1) c9) := hSw; go_simp) hS0 ?_
    simp only [Act.put, List.setIfInBounds_toArray, List.set_cons_zero, List.set_cons_succ]
    refine take_at 5 (some 114) (.int .i64 j1) rfl rfl (by kernel_rfl) (by kernel_rfl) (by kernel_rfl) (fun _ _ _ h => h) (by rfl) (fun W hSw => by go_simp; exact EJ.out) hS0 ?_
    simp only [Act.put, List.setIfInBounds_toArray, List.set_cons_zero, List.set_cons_succ]
    refine take_at 6 (some 115) (.slice (some DA) m1 m2) rfl rfl (by kernel_rfl) (by kernel_rfl) (by kernel_rfl) (fun _ _ _ h => h) (by rfl) (fun W hSw => by go_simp; exact ⟨HS1.out, HM1.out, HM2.out⟩) hS0 ?_
    simp only [Act.put, List.setIfInBounds_toArray, List.set_cons_zero, List.set_cons_succ]
    refine take_at 7 (some 116) (.pointer (some ⟨hb, 0, none⟩)) rfl rfl (by kernel_rfl) (by kernel_rfl) (by kernel_rfl) (fun _ _ _ h => h) (by rfl) (fun W hSw => by have q0 : W.cell? ⟨hb, 1, none⟩ = some (Value.slice (some ⟨g, 0, none⟩) (n + 1) c9) := hSw; go_simp) hS0 ?_
    simp only [Act.put, List.setIfInBounds_toArray, List.set_cons_zero, List.set_cons_succ]
    refine take_at 8 (some 117) (.pointer (some ⟨hb, 0, none⟩)) rfl rfl (by kernel_rfl) (by kernel_rfl) (by kernel_rfl) (fun _ _ _ h => h) (by rfl) (fun W hSw => by have q0 : W.cell? ⟨hb, 1, none⟩ = some (Value.slice (some ⟨g, 0, none⟩) (n + 1) c9) := hSw; go_simp) hS0 ?_
    simp only [Act.put, List.setIfInBounds_toArray, List.set_cons_zero, List.set_cons_succ]
    refine take_at 9 (some 118) (.pointer (some ⟨hb, 1, none⟩)) rfl rfl (by kernel_rfl) (by kernel_rfl) (by kernel_rfl) (fun _ _ _ h => h) (by rfl) (fun W hSw => by have q0 : W.cell? ⟨hb, 1, none⟩ = some (Value.slice (some ⟨g, 0, none⟩) (n + 1) c9) := hSw; go_simp) hS0 ?_
    simp only [Act.put, List.setIfInBounds_toArray, List.set_cons_zero, List.set_cons_succ]
    refine take_at 10 (some 119) (.slice (some ⟨g, 0, none⟩) (n + 1) c9) rfl rfl (by kernel_rfl) (by kernel_rfl) (by kernel_rfl) (fun _ _ _ h => h) (by rfl) (fun W hSw => by have q0 : W.cell? ⟨hb, 1, none⟩ = some (Value.slice (some ⟨g, 0, none⟩) (n + 1) c9) := hSw; go_simp) hS0 ?_
    simp only [Act.put, List.setIfInBounds_toArray, List.set_cons_zero, List.set_cons_succ]
    refine take_at 11 (some 120) (.int .i64 j) rfl rfl (by kernel_rfl) (by kernel_rfl) (by kernel_rfl) (fun _ _ _ h => h) (by rfl) (fun W hSw => by have q0 : W.cell? ⟨hb, 1, none⟩ = some (Value.slice (some ⟨g, 0, none⟩) (n + 1) c9) := hSw; go_simp) hS0 ?_
    simp only [Act.put, List.setIfInBounds_toArray, List.set_cons_zero, List.set_cons_succ]
    refine take_at 12 (some 121) (.slice (some SA) m3 m4) rfl rfl (by kernel_rfl) (by kernel_rfl) (by kernel_rfl) (fun _ _ _ h => h) (by rfl) (fun W hSw => by go_simp; exact ⟨HS2.out, HM3.out, HM4.out⟩) hS0 ?_
    simp only [Act.put, List.setIfInBounds_toArray, List.set_cons_zero, List.set_cons_succ]
    refine wpAnyH_ready (rs := [13]) (by kernel_rfl) (by simp) ?_
    refine AllReadyH.cons rfl (fun K hK => ?_) AllReadyH.nil
    refine step_copy1 _ _ (some 122) rfl rfl rfl (by rfl) _ _ rfl rfl HC.out ?_
    have hS1 := (hmD.c1 : (fun W : World => W.cell? ⟨hb, 1, none⟩ = some (Value.slice (some ⟨g, 0, none⟩) (n + 1) c9)) w12)
    refine hK.out _ _ hS1 (fun _ => ?_)
    clear hK K
    refine wpAnyH_done (by kernel_rfl) ?_ _
    refine NoPanic.normal ?_
    go_wp2_with fail
    have hmE := hmD.later (Below.refl _ w12).drew
    have hxE := (hxC.kept hg12 (fun e => hgB (by injection e))).later (Below.refl _ w12).drew
    have hGE := (hGC.step hg12 (fun x e hx => by
     injection e with e
     subst e
     rcases hgo with e2 | e2
     ·
      exact Or.inr e2
     ·
      omega)).step (grown_below (Below.refl _ w12).drew none) (by simp)
    clear hmC hxC hGC hG10 hmD hg12 HS1 HS2 HC EJ hS0 hS1
    have hsE := hGE.size
    have hS0 : (fun W : World => W.cell? ⟨hb, 1, none⟩ = some (Value.slice (some ⟨g, 0, none⟩) (n + 1) c9) ∧ W.cell? ⟨w.heap.size, 0, none⟩ = some (Value.int .i64 t) ∧ W.cell? ⟨w.heap.size, 1, none⟩ = some (Value.bool fo) ∧ W.cell? ⟨w.heap.size, 2, none⟩ = some (Value.int .i64 fn)) _ := ⟨hmE.c1, hxE.c0, hxE.c1, hxE.c2⟩
    refine wp_region_noPanic ?_
    refine wp_region_held_drew (S := fun W : World => W.cell? ⟨hb, 1, none⟩ = some (Value.slice (some ⟨g, 0, none⟩) (n + 1) c9) ∧ W.cell? ⟨w.heap.size, 0, none⟩ = some (Value.int .i64 t) ∧ W.cell? ⟨w.heap.size, 1, none⟩ = some (Value.bool fo) ∧ W.cell? ⟨w.heap.size, 2, none⟩ = some (Value.int .i64 fn)) (by kernel_rfl) hS0 (fun _ => ?_)
    refine take_at 0 (some 123) (.pointer (some ⟨hb, 0, none⟩)) rfl rfl (by kernel_rfl) (by kernel_rfl) (by kernel_rfl) (fun _ _ _ h => h) (by rfl) (fun W hSw => by obtain ⟨q9, q0, q1, q2⟩ := hSw; go_simp) hS0 ?_
    simp only [Act.put, List.setIfInBounds_toArray, List.set_cons_zero, List.set_cons_succ]
    refine take_at 1 (some 124) (.pointer (some ⟨hb, 0, none⟩)) rfl rfl (by kernel_rfl) (by kernel_rfl) (by kernel_rfl) (fun _ _ _ h => h) (by rfl) (fun W hSw => by obtain ⟨q9, q0, q1, q2⟩ := hSw; go_simp) hS0 ?_
    simp only [Act.put, List.setIfInBounds_toArray, List.set_cons_zero, List.set_cons_succ]
    refine take_at 2 (some 125) (.pointer (some ⟨hb, 1, none⟩)) rfl rfl (by kernel_rfl) (by kernel_rfl) (by kernel_rfl) (fun _ _ _ h => h) (by rfl) (fun W hSw => by obtain ⟨q9, q0, q1, q2⟩ := hSw; go_simp) hS0 ?_
    simp only [Act.put, List.setIfInBounds_toArray, List.set_cons_zero, List.set_cons_succ]
    refine take_at 3 (some 126) (.slice (some ⟨g, 0, none⟩) (n + 1) c9) rfl rfl (by kernel_rfl) (by kernel_rfl) (by kernel_rfl) (fun _ _ _ h => h) (by rfl) (fun W hSw => by obtain ⟨q9, q0, q1, q2⟩ := hSw; go_simp) hS0 ?_
    simp only [Act.put, List.setIfInBounds_toArray, List.set_cons_zero, List.set_cons_succ]
    refine take_at 4 (some 127) (.int .i64 j) rfl rfl (by kernel_rfl) (by kernel_rfl) (by kernel_rfl) (fun _ _ _ h => h) (by rfl) (fun W hSw => by obtain ⟨q9, q0, q1, q2⟩ := hSw; go_simp) hS0 ?_
    simp only [Act.put, List.setIfInBounds_toArray, List.set_cons_zero, List.set_cons_succ]
    refine take_at 5 (some 128) (q) rfl rfl (by kernel_rfl) (by kernel_rfl) (by kernel_rfl) (fun _ _ _ h => h) (by rfl) (fun W hSw => by obtain ⟨q9, q0, q1, q2⟩ := hSw; go_simp) hS0 ?_
    simp only [Act.put, List.setIfInBounds_toArray, List.set_cons_zero, List.set_cons_succ]
    refine take_at 7 (some 130) (.agg #[.int .i64 t, .bool fo, .int .i64 fn]) rfl rfl (by kernel_rfl) (by kernel_rfl) (by kernel_rfl) (fun _ _ _ h => h) (by rfl) (fun W hSw => by obtain ⟨q9, q0, q1, q2⟩ := hSw; go_simp) hS0 ?_
    simp only [Act.put, List.setIfInBounds_toArray, List.set_cons_zero, List.set_cons_succ]
    refine wpAnyH_ready (rs := [6, 8]) (by kernel_rfl) (by simp) ?_
    refine AllReadyH.cons rfl (fun K hK => ?_) (AllReadyH.cons rfl (fun K hK => ?_) AllReadyH.nil)
    ·
     obtain ⟨lv, w13, hrun, hL13, hb13⟩ := hap _ hGE
     obtain ⟨lo, ln, lc, rfl⟩ : ∃ lo ln lc, lv = .slice lo ln lc := by rcases hL13.2 with ⟨e, _⟩ | ⟨_, _, _, e, _⟩ <;> exact ⟨_, _, _, e⟩
     refine step_append1 _ _ (some 129) rfl rfl rfl (by rfl) _ _ rfl rfl hrun ?_
     have hm13 := hmE.later hb13
     have hx13 := hxE.later hb13
     have hG13 := hGE.step (grown_below hb13 none) (by simp)
     have hS2 := (⟨hm13.c1, hx13.c0, hx13.c1, hx13.c2⟩ : (fun W : World => W.cell? ⟨hb, 1, none⟩ = some (Value.slice (some ⟨g, 0, none⟩) (n + 1) c9) ∧ W.cell? ⟨w.heap.size, 0, none⟩ = some (Value.int .i64 t) ∧ W.cell? ⟨w.heap.size, 1, none⟩ = some (Value.bool fo) ∧ W.cell? ⟨w.heap.size, 2, none⟩ = some (Value.int .i64 fn)) _)
     refine hK.out _ _ hS2 (fun _ => ?_)
     clear hK K
     refine wpAnyH_ready (rs := [8]) (by kernel_rfl) (by simp) ?_
     refine AllReadyH.cons rfl (fun K hK => ?_) AllReadyH.nil
     go_simp
     have hb14 := bal (Below.refl _ w13) (.cells #[.int .i64 t, .bool fo, .int .i64 fn] 35)
     have hmZ := hm13.later hb14
     have hxZ := hx13.later hb14
     have hGZ := hG13.step (grown_below hb14 none) (by simp)
     have hLZ := row_kept hL13 (grown_below hb14 none) (fun _ _ => by simp)
     have hOZ := one_own w13 base (t, fo, fn) (Nat.le_trans hbase hG13.size)
     have hgs : w.heap.size ≤ w13.heap.size := hG13.size
     dsimp only at hOZ
     generalize w13.alloc (.cells #[.int .i64 t, .bool fo, .int .i64 fn] 35) = wZ at *
     generalize w13.heap.size = gs at *
     have hS3 := (⟨hmZ.c1, hxZ.c0, hxZ.c1, hxZ.c2⟩ : (fun W : World => W.cell? ⟨hb, 1, none⟩ = some (Value.slice (some ⟨g, 0, none⟩) (n + 1) c9) ∧ W.cell? ⟨w.heap.size, 0, none⟩ = some (Value.int .i64 t) ∧ W.cell? ⟨w.heap.size, 1, none⟩ = some (Value.bool fo) ∧ W.cell? ⟨w.heap.size, 2, none⟩ = some (Value.int .i64 fn)) _)
     refine hK.out _ _ hS3 (fun _ => ?_)
     clear hK K
     refine take_at 9 (some 132) (.agg #[.slice lo ln lc, .slice (some ⟨gs, 0, none⟩) 1 1]) rfl rfl (by kernel_rfl) (by kernel_rfl) (by kernel_rfl) (fun _ _ _ h => h) (by rfl) (fun W hSw => by obtain ⟨q9, q0, q1, q2⟩ := hSw; go_simp) hS3 ?_
     simp only [Act.put, List.setIfInBounds_toArray, List.set_cons_zero, List.set_cons_succ]
     refine wpAnyH_ready (rs := [10]) (by kernel_rfl) (by simp) ?_
     refine AllReadyH.cons rfl (fun K hK => ?_) AllReadyH.nil
     go_simp
     have hbZ := bal (Below.refl _ wZ) (.cells #[.slice lo ln lc, .slice (some ⟨gs, 0, none⟩) 1 1] 94)
     have hmY := hmZ.later hbZ
     have hxY := hxZ.later hbZ
     have hfin := Md.done HH.out hj hn1 hmZ hGZ hgo hgs hOZ hLZ
     obtain ⟨yv, hyv⟩ := hmY.at_ hj
     have hyf := hmY.open_ j
     have hpt : (wZ.alloc (.cells #[.slice lo ln lc, .slice (some ⟨gs, 0, none⟩) 1 1] 94)).grownBy _ (some g) := grown_set _ g j (.pointer (some ⟨wZ.heap.size, 0, none⟩))
     have hmX := hmY.lay (k := j) (by rw [List.length_take, List.length_map]; omega) (.pointer (some ⟨wZ.heap.size, 0, none⟩))
     have hxX := hxY.kept hpt (fun e => hgB (by injection e))
     have hS4 := (⟨hmY.c1, hxY.c0, hxY.c1, hxY.c2⟩ : (fun W : World => W.cell? ⟨hb, 1, none⟩ = some (Value.slice (some ⟨g, 0, none⟩) (n + 1) c9) ∧ W.cell? ⟨w.heap.size, 0, none⟩ = some (Value.int .i64 t) ∧ W.cell? ⟨w.heap.size, 1, none⟩ = some (Value.bool fo) ∧ W.cell? ⟨w.heap.size, 2, none⟩ = some (Value.int .i64 fn)) _)
     refine hK.out _ _ hS4 (fun _ => ?_)
     clear hK K
     refine take_at 11 (some 134) (.pointer (some ⟨g, j, none⟩)) rfl rfl (by kernel_rfl) (by kernel_rfl) (by kernel_rfl) (fun _ _ _ h => h) (by rfl) (fun W hSw => by obtain ⟨q9, q0, q1, q2⟩ := hSw; go_simp; exact fun hq => absurd hq (by omega)) hS4 ?_
     simp only [Act.put, List.setIfInBounds_toArray, List.set_cons_zero, List.set_cons_succ]
     refine wpAnyH_ready (rs := [12]) (by kernel_rfl) (by simp) ?_
     refine AllReadyH.cons rfl (fun K hK => ?_) AllReadyH.nil
     go_simp
     have hS5 := (⟨hmX.c1, hxX.c0, hxX.c1, hxX.c2⟩ : (fun W : World => W.cell? ⟨hb, 1, none⟩ = some (Value.slice (some ⟨g, 0, none⟩) (n + 1) c9) ∧ W.cell? ⟨w.heap.size, 0, none⟩ = some (Value.int .i64 t) ∧ W.cell? ⟨w.heap.size, 1, none⟩ = some (Value.bool fo) ∧ W.cell? ⟨w.heap.size, 2, none⟩ = some (Value.int .i64 fn)) _)
     refine hK.out _ _ hS5 (fun _ => ?_)
     clear hK K
     refine wpAnyH_done (by kernel_rfl) ?_ _
     refine NoPanic.normal ?_
     go_wp2
     go_ret
     exact ⟨rfl, by rw [HFo.out, HFn.out]; exact hfin⟩
    ·
     go_simp
     have hb13 : Below w12.drew.heap.size w12.drew (w12.alloc (.cells #[.int .i64 t, .bool fo, .int .i64 fn] 35)).drew := bal (Below.refl _ w12.drew) (.cells #[.int .i64 t, .bool fo, .int .i64 fn] 35)
     have hm13 := hmE.later hb13
     have hx13 := hxE.later hb13
     have hG13 := hGE.step (grown_below hb13 none) (by simp)
     have hO13 : Own (w12.alloc (.cells #[.int .i64 t, .bool fo, .int .i64 fn] 35)).drew base (.slice (some ⟨w12.heap.size, 0, none⟩) 1 1) [(t, fo, fn)] := one_own w12.drew base (t, fo, fn) (Nat.le_trans hbase hGE.size)
     have hgs : w.heap.size ≤ w12.heap.size := hGE.size
     generalize (w12.alloc (.cells #[.int .i64 t, .bool fo, .int .i64 fn] 35)).drew = w13 at *
     generalize w12.heap.size = gs at *
     have hS2 := (⟨hm13.c1, hx13.c0, hx13.c1, hx13.c2⟩ : (fun W : World => W.cell? ⟨hb, 1, none⟩ = some (Value.slice (some ⟨g, 0, none⟩) (n + 1) c9) ∧ W.cell? ⟨w.heap.size, 0, none⟩ = some (Value.int .i64 t) ∧ W.cell? ⟨w.heap.size, 1, none⟩ = some (Value.bool fo) ∧ W.cell? ⟨w.heap.size, 2, none⟩ = some (Value.int .i64 fn)) _)
     refine hK.out _ _ hS2 (fun _ => ?_)
     clear hK K
     refine wpAnyH_ready (rs := [6]) (by kernel_rfl) (by simp) ?_
     refine AllReadyH.cons rfl (fun K hK => ?_) AllReadyH.nil
     obtain ⟨lv, wZ, hrun, hL13, hb14⟩ := hap _ hG13
     obtain ⟨lo, ln, lc, rfl⟩ : ∃ lo ln lc, lv = .slice lo ln lc := by rcases hL13.2 with ⟨e, _⟩ | ⟨_, _, _, e, _⟩ <;> exact ⟨_, _, _, e⟩
     refine step_append1 _ _ (some 129) rfl rfl rfl (by rfl) _ _ rfl rfl hrun ?_
     have hmZ := hm13.later hb14
     have hxZ := hx13.later hb14
     have hGZ := hG13.step (grown_below hb14 none) (by simp)
     have hOZ := hO13.later hb14
     have hLZ := hL13
     have hS3 := (⟨hmZ.c1, hxZ.c0, hxZ.c1, hxZ.c2⟩ : (fun W : World => W.cell? ⟨hb, 1, none⟩ = some (Value.slice (some ⟨g, 0, none⟩) (n + 1) c9) ∧ W.cell? ⟨w.heap.size, 0, none⟩ = some (Value.int .i64 t) ∧ W.cell? ⟨w.heap.size, 1, none⟩ = some (Value.bool fo) ∧ W.cell? ⟨w.heap.size, 2, none⟩ = some (Value.int .i64 fn)) _)
     refine hK.out _ _ hS3 (fun _ => ?_)
     clear hK K
     refine take_at 9 (some 132) (.agg #[.slice lo ln lc, .slice (some ⟨gs, 0, none⟩) 1 1]) rfl rfl (by kernel_rfl) (by kernel_rfl) (by kernel_rfl) (fun _ _ _ h => h) (by rfl) (fun W hSw => by obtain ⟨q9, q0, q1, q2⟩ := hSw; go_simp) hS3 ?_
     simp only [Act.put, List.setIfInBounds_toArray, List.set_cons_zero, List.set_cons_succ]
     refine wpAnyH_ready (rs := [10]) (by kernel_rfl) (by simp) ?_
     refine AllReadyH.cons rfl (fun K hK => ?_) AllReadyH.nil
     go_simp
     have hbZ := bal (Below.refl _ wZ) (.cells #[.slice lo ln lc, .slice (some ⟨gs, 0, none⟩) 1 1] 94)
     have hmY := hmZ.later hbZ
     have hxY := hxZ.later hbZ
     have hfin := Md.done HH.out hj hn1 hmZ hGZ hgo hgs hOZ hLZ
     obtain ⟨yv, hyv⟩ := hmY.at_ hj
     have hyf := hmY.open_ j
     have hpt : (wZ.alloc (.cells #[.slice lo ln lc, .slice (some ⟨gs, 0, none⟩) 1 1] 94)).grownBy _ (some g) := grown_set _ g j (.pointer (some ⟨wZ.heap.size, 0, none⟩))
     have hmX := hmY.lay (k := j) (by rw [List.length_take, List.length_map]; omega) (.pointer (some ⟨wZ.heap.size, 0, none⟩))
     have hxX := hxY.kept hpt (fun e => hgB (by injection e))
     have hS4 := (⟨hmY.c1, hxY.c0, hxY.c1, hxY.c2⟩ : (fun W : World => W.cell? ⟨hb, 1, none⟩ = some (Value.slice (some ⟨g, 0, none⟩) (n + 1) c9) ∧ W.cell? ⟨w.heap.size, 0, none⟩ = some (Value.int .i64 t) ∧ W.cell? ⟨w.heap.size, 1, none⟩ = some (Value.bool fo) ∧ W.cell? ⟨w.heap.size, 2, none⟩ = some (Value.int .i64 fn)) _)
     refine hK.out _ _ hS4 (fun _ => ?_)
     clear hK K
     refine take_at 11 (some 134) (.pointer (some ⟨g, j, none⟩)) rfl rfl (by kernel_rfl) (by kernel_rfl) (by kernel_rfl) (fun _ _ _ h => h) (by rfl) (fun W hSw => by obtain ⟨q9, q0, q1, q2⟩ := hSw; go_simp; exact fun hq => absurd hq (by omega)) hS4 ?_
     simp only [Act.put, List.setIfInBounds_toArray, List.set_cons_zero, List.set_cons_succ]
     refine wpAnyH_ready (rs := [12]) (by kernel_rfl) (by simp) ?_
     refine AllReadyH.cons rfl (fun K hK => ?_) AllReadyH.nil
     go_simp
     have hS5 := (⟨hmX.c1, hxX.c0, hxX.c1, hxX.c2⟩ : (fun W : World => W.cell? ⟨hb, 1, none⟩ = some (Value.slice (some ⟨g, 0, none⟩) (n + 1) c9) ∧ W.cell? ⟨w.heap.size, 0, none⟩ = some (Value.int .i64 t) ∧ W.cell? ⟨w.heap.size, 1, none⟩ = some (Value.bool fo) ∧ W.cell? ⟨w.heap.size, 2, none⟩ = some (Value.int .i64 fn)) _)
     refine hK.out _ _ hS5 (fun _ => ?_)
     clear hK K
     refine wpAnyH_done (by kernel_rfl) ?_ _
     refine NoPanic.normal ?_
     go_wp2
     go_ret
     exact ⟨rfl, by rw [HFo.out, HFn.out]; exact hfin⟩
  ·
   have hd : decide ((j : Int) < (n : Int)) = false := decide_eq_false (by omega)
   have hd' : decide (j < n) = false := decide_eq_false hlt2
   have hjn : j = n := by omega
   have hjk : j = k := by
    have h2 := HJ.out.2
    rcases Nat.lt_trichotomy j k with e | e | e
    ·
     omega
    ·
     exact e
    ·
     have := hge (by omega); have := h2 k e; omega
   subst hjk
   have hxA := hx8
   have hbA := hb8
   generalize hwq : wr = w9 at *
   clear hwq hx8 hx6b hb8 hb6d hbr HJ hjn hlt2
   obtain ⟨i0, hi, hz0, hz1, hz2⟩ := infoP_parts
   have hXA := HX.out _ hbA
   have c1A := hXA.c1
   have hpA : w9.ownsRow base 89 1 (.slice ao n cap) n (rs.map pt) := by have h1 := hXA.p; unfold OwnP at h1; rw [hrl] at h1; exact h1
   have hbl := bal (Below.refl _ w9) (.cells #[.pointer none] 89)
   have hpB := row_kept hpA (grown_below hbl none) (fun _ _ => by simp)
   have hXB := hXA.later hbl
   have hxB := hxA.later hbl
   have hbB := Below.chain hbA hbl
   have hnB := ptr_new w9 (.pointer none)
   have hsB : w.heap.size ≤ w9.heap.size := (Gf.below (F := fun _ => False) hbA).size
   go_wp2_with (at_builtin; go_must (refine wpList_append_lies _ rfl _ _ 28 rfl base 89 i0 (.pointer none) 1 8 Tryz.underlying28 hi hz0 hz1 hz2 zeroP (by decide) _ _ _ rfl hpB ⟨w9.heap.size, 0, none⟩ 1 1 [.pointer none] rfl rfl ?hnews (by intro u hu; rw [List.mem_singleton.1 hu]; rfl) (by decide) ?h63 ?hby ?hbs _ rfl ?_))
   case hnews => first | exact hnB | exact fun i u hu => hu
   case h63 => unfold maxLen; omega
   case hby => omega
   case hbs => simp; omega
   intro g c9 w10 ho10 hg10 hl10 _
   have hmA := Md.start hXB ho10 hg10
   have hG10 : Gf w (w10.setCell ⟨hb, 1, none⟩ (.slice (some ⟨g, 0, none⟩) (n + 1) c9)) (fun x => x = hb ∨ (Value.slice ao n cap).ownBlock = some x) := ((Gf.below hbB).step hg10 (fun x e _ => Or.inr e)).step (grown_set w10 hb 1 _) (fun x e _ => Or.inl (by injection e with e; exact e.symm))
   have hgo : (Value.slice ao n cap).ownBlock = some g ∨ w.heap.size ≤ g := by
    rcases hl10 with e | e
    ·
     exact Or.inl e
    ·
     refine Or.inr ?_
     have : (w9.alloc (.cells #[.pointer none] 89)).heap.size = w9.heap.size + 1 := by simp
     omega
   have hBn : ∀ x, (Value.slice ao n cap).ownBlock = some x → w.heap.size ≠ x := HOb.out
   have hx10 := (hxB.kept hg10 (fun e => hBn _ e.symm rfl)).kept (grown_set w10 hb 1 (.slice (some ⟨g, 0, none⟩) (n + 1) c9)) (fun e => HBh.out (by injection e))
   have q1 := hXB.c1
   have q10 := grown_cell hg10 hXB.c1 (fun e => (row_ty hXB.p e.symm).ne hXB.t (by decide) rfl)
   have q11 := grown_frozen hg10 hXB.t.lt hXB.f1 (fun e => (row_ty hXB.p e.symm).ne hXB.t (by decide) rfl)
   have hgB : w.heap.size ≠ g := by
    rcases hl10 with e | e
    ·
     exact hBn g e
    ·
     have : (w9.alloc (.cells #[.pointer none] 89)).heap.size = w9.heap.size + 1 := by simp
     omega
   have hcap := hmA.cap
   clear hpA hpB hXA hnB c1A hxA hxB hbA hbB hbl hl10
   go_wp2_with fail
   generalize hwq : w10.setCell ⟨hb, 1, none⟩ (.slice (some ⟨g, 0, none⟩) (n + 1) c9) = w11 at *
   clear hwq q1 q10 q11
   have hmC := hmA.later (Below.refl _ w11).drew
   have hxC := hx10.later (Below.refl _ w11).drew
   have hGC := hG10.step (grown_below (Below.refl _ w11).drew none) (by simp)
   obtain ⟨j1, hj1⟩ : ∃ x, x = j + 1 := ⟨_, rfl⟩
   have EJ : Hid (IntKind.i64.wrap ((j : Int) + 1) = (j1 : Int)) := by show _ = _; rw [hj1]; exact (wI (by omega) (by omega)).trans (by omega)
   have hs1 : (if c9 = j1 then some (⟨g, 0, none⟩ : Addr) else some ⟨g, j1, none⟩) = some (cutP g c9 j1) := by unfold cutP; split <;> rfl
   have hs2 : (if c9 = j then some (⟨g, 0, none⟩ : Addr) else some ⟨g, j, none⟩) = some (cutP g c9 j) := by unfold cutP; split <;> rfl
   obtain ⟨w12, y, hcr, hmD, hg12⟩ := hmC.copied (k := j) hj (by intro v hv; obtain ⟨r, _, rfl⟩ := List.mem_map.1 hv; rfl)
   rw [← hj1] at hcr
   generalize cutP g c9 j1 = DA at *
   generalize cutP g c9 j = SA at *
   obtain ⟨m1, hm1⟩ : ∃ m, n + 1 - j1 = m := ⟨_, rfl⟩
   obtain ⟨m2, hm2⟩ : ∃ m, c9 - j1 = m := ⟨_, rfl⟩
   obtain ⟨m3, hm3⟩ : ∃ m, n + 1 - j = m := ⟨_, rfl⟩
   obtain ⟨m4, hm4⟩ : ∃ m, c9 - j = m := ⟨_, rfl⟩
   obtain ⟨m5, hm5⟩ : ∃ m, n - j = m := ⟨_, rfl⟩
   rw [hm1, hm2, hm3, hm4, hm5] at hcr
   have HS1 : Hid (_ = some DA) := hs1
   have HS2 : Hid (_ = some SA) := hs2
   have HM1 : Hid (n + 1 - j1 = m1) := hm1
   have HM2 : Hid (c9 - j1 = m2) := hm2
   have HM3 : Hid (n + 1 - j = m3) := hm3
   have HM4 : Hid (c9 - j = m4) := hm4
   have hj1n : (j1 : Int) ≤ (n : Int) + 1 := by omega
   have hj0n : (j : Int) ≤ (n : Int) + 1 := by omega
   have HC : Hid ((Builtin.copy_ #[28, 28] 3 #[.slice (some DA) m1 m2, .slice (some SA) m3 m4]).run Tryz.prog w11.drew = .ok (.int .i64 m5) w12) := hcr
   clear hs1 hs2 hcr hm1 hm2 hm3 hm4 hm5 hj1 hmA hx10
   have hS0 : (fun W : World => W.cell? ⟨hb, 1, none⟩ = some (Value.slice (some ⟨g, 0, none⟩) (n + 1) c9)) _ := hmC.c1
   refine wp_region_noPanic ?_
   refine wp_region_held_drew (S := fun W : World => W.cell? ⟨hb, 1, none⟩ = some (Value.slice (some ⟨g, 0, none⟩) (n + 1) c9)) (by kernel_rfl) hS0 (fun _ => ?_)
   refine take_at 0 (some 109) (.pointer (some ⟨hb, 0, none⟩)) rfl rfl (by kernel_rfl) (by kernel_rfl) (by kernel_rfl) (fun _ _ _ h => h) (by rfl) (fun W hSw => by have q0 : W.cell? ⟨hb, 1, none⟩ = some (Value.slice (some ⟨g, 0, none⟩) (n + 1) c9) := hSw; go_simp) hS0 ?_
   simp only [Act.put, List.setIfInBounds_toArray, List.set_cons_zero, List.set_cons_succ]
   refine take_at 1 (some 110) (.pointer (some ⟨hb, 0, none⟩)) rfl rfl (by kernel_rfl) (by kernel_rfl) (by kernel_rfl) (fun _ _ _ h => h) (by rfl) (fun W hSw => by have q0 : W.cell? ⟨hb, 1, none⟩ = some (Value.slice (some ⟨g, 0, none⟩) (n + 1) c9) := hSw; go_simp) hS0 ?_
   simp only [Act.put, List.setIfInBounds_toArray, List.set_cons_zero, List.set_cons_succ]
   refine take_at 2 (some 111) (.pointer (some ⟨hb, 1, none⟩)) rfl rfl (by kernel_rfl) (by kernel_rfl) (by kernel_rfl) (fun _ _ _ h => h) (by rfl) (fun W hSw => by have q0 : W.cell? ⟨hb, 1, none⟩ = some (Value.slice (some ⟨g, 0, none⟩) (n + 1) c9) := hSw; go_simp) hS0 ?_
   simp only [Act.put, List.setIfInBounds_toArray, List.set_cons_zero, List.set_cons_succ]
   refine take_at 3 (some 112) (.slice (some ⟨g, 0, none⟩) (n + 1) c9) rfl rfl (by kernel_rfl) (by kernel_rfl) (by kernel_rfl) (fun _ _ _ h => h) (by rfl) (fun W hSw => by have q0 : W.cell? ⟨hb, 1, none⟩ = some (Value.slice (some ⟨g, 0, none⟩) (n + 1) c9) := hSw; go_simp) hS0 ?_
   simp only [Act.put, List.setIfInBounds_toArray, List.set_cons_zero, List.set_cons_succ]
   refine take_at 4 (some 113) (.int .i64 j) rfl rfl (by kernel_rfl) (by kernel_rfl) (by kernel_rfl) (fun _ _ _ h => h) (by rfl) (fun W hSw => by have q0 : W.cell? ⟨hb, 1, none⟩ = some (Value.slice (some ⟨g, 0, none⟩) (n + 1) c9) := hSw; go_simp) hS0 ?_
   simp only [Act.put, List.setIfInBounds_toArray, List.set_cons_zero, List.set_cons_succ]
   refine take_at 5 (some 114) (.int .i64 j1) rfl rfl (by kernel_rfl) (by kernel_rfl) (by kernel_rfl) (fun _ _ _ h => h) (by rfl) (fun W hSw => by go_simp; exact EJ.out) hS0 ?_
   simp only [Act.put, List.setIfInBounds_toArray, List.set_cons_zero, List.set_cons_succ]
   refine take_at 6 (some 115) (.slice (some DA) m1 m2) rfl rfl (by kernel_rfl) (by kernel_rfl) (by kernel_rfl) (fun _ _ _ h => h) (by rfl) (fun W hSw => by go_simp; exact ⟨HS1.out, HM1.out, HM2.out⟩) hS0 ?_
   simp only [Act.put, List.setIfInBounds_toArray, List.set_cons_zero, List.set_cons_succ]
   refine take_at 7 (some 116) (.pointer (some ⟨hb, 0, none⟩)) rfl rfl (by kernel_rfl) (by kernel_rfl) (by kernel_rfl) (fun _ _ _ h => h) (by rfl) (fun W hSw => by have q0 : W.cell? ⟨hb, 1, none⟩ = some (Value.slice (some ⟨g, 0, none⟩) (n + 1) c9) := hSw; go_simp) hS0 ?_
   simp only [Act.put, List.setIfInBounds_toArray, List.set_cons_zero, List.set_cons_succ]
   refine take_at 8 (some 117) (.pointer (some ⟨hb, 0, none⟩)) rfl rfl (by kernel_rfl) (by kernel_rfl) (by kernel_rfl) (fun _ _ _ h => h) (by rfl) (fun W hSw => by have q0 : W.cell? ⟨hb, 1, none⟩ = some (Value.slice (some ⟨g, 0, none⟩) (n + 1) c9) := hSw; go_simp) hS0 ?_
   simp only [Act.put, List.setIfInBounds_toArray, List.set_cons_zero, List.set_cons_succ]
   refine take_at 9 (some 118) (.pointer (some ⟨hb, 1, none⟩)) rfl rfl (by kernel_rfl) (by kernel_rfl) (by kernel_rfl) (fun _ _ _ h => h) (by rfl) (fun W hSw => by have q0 : W.cell? ⟨hb, 1, none⟩ = some (Value.slice (some ⟨g, 0, none⟩) (n + 1) c9) := hSw; go_simp) hS0 ?_
   simp only [Act.put, List.setIfInBounds_toArray, List.set_cons_zero, List.set_cons_succ]
   refine take_at 10 (some 119) (.slice (some ⟨g, 0, none⟩) (n + 1) c9) rfl rfl (by kernel_rfl) (by kernel_rfl) (by kernel_rfl) (fun _ _ _ h => h) (by rfl) (fun W hSw => by have q0 : W.cell? ⟨hb, 1, none⟩ = some (Value.slice (some ⟨g, 0, none⟩) (n + 1) c9) := hSw; go_simp) hS0 ?_
   simp only [Act.put, List.setIfInBounds_toArray, List.set_cons_zero, List.set_cons_succ]
   refine take_at 11 (some 120) (.int .i64 j) rfl rfl (by kernel_rfl) (by kernel_rfl) (by kernel_rfl) (fun _ _ _ h => h) (by rfl) (fun W hSw => by have q0 : W.cell? ⟨hb, 1, none⟩ = some (Value.slice (some ⟨g, 0, none⟩) (n + 1) c9) := hSw; go_simp) hS0 ?_
   simp only [Act.put, List.setIfInBounds_toArray, List.set_cons_zero, List.set_cons_succ]
   refine take_at 12 (some 121) (.slice (some SA) m3 m4) rfl rfl (by kernel_rfl) (by kernel_rfl) (by kernel_rfl) (fun _ _ _ h => h) (by rfl) (fun W hSw => by go_simp; exact ⟨HS2.out, HM3.out, HM4.out⟩) hS0 ?_
   simp only [Act.put, List.setIfInBounds_toArray, List.set_cons_zero, List.set_cons_succ]
   refine wpAnyH_ready (rs := [13]) (by kernel_rfl) (by simp) ?_
   refine AllReadyH.cons rfl (fun K hK => ?_) AllReadyH.nil
   refine step_copy1 _ _ (some 122) rfl rfl rfl (by rfl) _ _ rfl rfl HC.out ?_
   have hS1 := (hmD.c1 : (fun W : World => W.cell? ⟨hb, 1, none⟩ = some (Value.slice (some ⟨g, 0, none⟩) (n + 1) c9)) w12)
   refine hK.out _ _ hS1 (fun _ => ?_)
   clear hK K
   refine wpAnyH_done (by kernel_rfl) ?_ _
   refine NoPanic.normal ?_
   go_wp2_with fail
   have hmE := hmD.later (Below.refl _ w12).drew
   have hxE := (hxC.kept hg12 (fun e => hgB (by injection e))).later (Below.refl _ w12).drew
   have hGE := (hGC.step hg12 (fun x e hx => by
    injection e with e
    subst e
    rcases hgo with e2 | e2
    ·
     exact Or.inr e2
    ·
     omega)).step (grown_below (Below.refl _ w12).drew none) (by simp)
   clear hmC hxC hGC hG10 hmD hg12 HS1 HS2 HC EJ hS0 hS1
   have hsE := hGE.size
   have hS0 : (fun W : World => W.cell? ⟨hb, 1, none⟩ = some (Value.slice (some ⟨g, 0, none⟩) (n + 1) c9) ∧ W.cell? ⟨w.heap.size, 0, none⟩ = some (Value.int .i64 t) ∧ W.cell? ⟨w.heap.size, 1, none⟩ = some (Value.bool fo) ∧ W.cell? ⟨w.heap.size, 2, none⟩ = some (Value.int .i64 fn)) _ := ⟨hmE.c1, hxE.c0, hxE.c1, hxE.c2⟩
   refine wp_region_noPanic ?_
   refine wp_region_held_drew (S := fun W : World => W.cell? ⟨hb, 1, none⟩ = some (Value.slice (some ⟨g, 0, none⟩) (n + 1) c9) ∧ W.cell? ⟨w.heap.size, 0, none⟩ = some (Value.int .i64 t) ∧ W.cell? ⟨w.heap.size, 1, none⟩ = some (Value.bool fo) ∧ W.cell? ⟨w.heap.size, 2, none⟩ = some (Value.int .i64 fn)) (by kernel_rfl) hS0 (fun _ => ?_)
   refine take_at 0 (some 123) (.pointer (some ⟨hb, 0, none⟩)) rfl rfl (by kernel_rfl) (by kernel_rfl) (by kernel_rfl) (fun _ _ _ h => h) (by rfl) (fun W hSw => by obtain ⟨q9, q0, q1, q2⟩ := hSw; go_simp) hS0 ?_
   simp only [Act.put, List.setIfInBounds_toArray, List.set_cons_zero, List.set_cons_succ]
   refine take_at 1 (some 124) (.pointer (some ⟨hb, 0, none⟩)) rfl rfl (by kernel_rfl) (by kernel_rfl) (by kernel_rfl) (fun _ _ _ h => h) (by rfl) (fun W hSw => by obtain ⟨q9, q0, q1, q2⟩ := hSw; go_simp) hS0 ?_
   simp only [Act.put, List.setIfInBounds_toArray, List.set_cons_zero, List.set_cons_succ]
   refine take_at 2 (some 125) (.pointer (some ⟨hb, 1, none⟩)) rfl rfl (by kernel_rfl) (by kernel_rfl) (by kernel_rfl) (fun _ _ _ h => h) (by rfl) (fun W hSw => by obtain ⟨q9, q0, q1, q2⟩ := hSw; go_simp) hS0 ?_
   simp only [Act.put, List.setIfInBounds_toArray, List.set_cons_zero, List.set_cons_succ]
   refine take_at 3 (some 126) (.slice (some ⟨g, 0, none⟩) (n + 1) c9) rfl rfl (by kernel_rfl) (by kernel_rfl) (by kernel_rfl) (fun _ _ _ h => h) (by rfl) (fun W hSw => by obtain ⟨q9, q0, q1, q2⟩ := hSw; go_simp) hS0 ?_
   simp only [Act.put, List.setIfInBounds_toArray, List.set_cons_zero, List.set_cons_succ]
   refine take_at 4 (some 127) (.int .i64 j) rfl rfl (by kernel_rfl) (by kernel_rfl) (by kernel_rfl) (fun _ _ _ h => h) (by rfl) (fun W hSw => by obtain ⟨q9, q0, q1, q2⟩ := hSw; go_simp) hS0 ?_
   simp only [Act.put, List.setIfInBounds_toArray, List.set_cons_zero, List.set_cons_succ]
   refine take_at 5 (some 128) (q) rfl rfl (by kernel_rfl) (by kernel_rfl) (by kernel_rfl) (fun _ _ _ h => h) (by rfl) (fun W hSw => by obtain ⟨q9, q0, q1, q2⟩ := hSw; go_simp) hS0 ?_
   simp only [Act.put, List.setIfInBounds_toArray, List.set_cons_zero, List.set_cons_succ]
   refine take_at 7 (some 130) (.agg #[.int .i64 t, .bool fo, .int .i64 fn]) rfl rfl (by kernel_rfl) (by kernel_rfl) (by kernel_rfl) (fun _ _ _ h => h) (by rfl) (fun W hSw => by obtain ⟨q9, q0, q1, q2⟩ := hSw; go_simp) hS0 ?_
   simp only [Act.put, List.setIfInBounds_toArray, List.set_cons_zero, List.set_cons_succ]
   refine wpAnyH_ready (rs := [6, 8]) (by kernel_rfl) (by simp) ?_
   refine AllReadyH.cons rfl (fun K hK => ?_) (AllReadyH.cons rfl (fun K hK => ?_) AllReadyH.nil)
   ·
    obtain ⟨lv, w13, hrun, hL13, hb13⟩ := hap _ hGE
    obtain ⟨lo, ln, lc, rfl⟩ : ∃ lo ln lc, lv = .slice lo ln lc := by rcases hL13.2 with ⟨e, _⟩ | ⟨_, _, _, e, _⟩ <;> exact ⟨_, _, _, e⟩
    refine step_append1 _ _ (some 129) rfl rfl rfl (by rfl) _ _ rfl rfl hrun ?_
    have hm13 := hmE.later hb13
    have hx13 := hxE.later hb13
    have hG13 := hGE.step (grown_below hb13 none) (by simp)
    have hS2 := (⟨hm13.c1, hx13.c0, hx13.c1, hx13.c2⟩ : (fun W : World => W.cell? ⟨hb, 1, none⟩ = some (Value.slice (some ⟨g, 0, none⟩) (n + 1) c9) ∧ W.cell? ⟨w.heap.size, 0, none⟩ = some (Value.int .i64 t) ∧ W.cell? ⟨w.heap.size, 1, none⟩ = some (Value.bool fo) ∧ W.cell? ⟨w.heap.size, 2, none⟩ = some (Value.int .i64 fn)) _)
    refine hK.out _ _ hS2 (fun _ => ?_)
    clear hK K
    refine wpAnyH_ready (rs := [8]) (by kernel_rfl) (by simp) ?_
    refine AllReadyH.cons rfl (fun K hK => ?_) AllReadyH.nil
    go_simp
    have hb14 := bal (Below.refl _ w13) (.cells #[.int .i64 t, .bool fo, .int .i64 fn] 35)
    have hmZ := hm13.later hb14
    have hxZ := hx13.later hb14
    have hGZ := hG13.step (grown_below hb14 none) (by simp)
    have hLZ := row_kept hL13 (grown_below hb14 none) (fun _ _ => by simp)
    have hOZ := one_own w13 base (t, fo, fn) (Nat.le_trans hbase hG13.size)
    have hgs : w.heap.size ≤ w13.heap.size := hG13.size
    dsimp only at hOZ
    generalize w13.alloc (.cells #[.int .i64 t, .bool fo, .int .i64 fn] 35) = wZ at *
    generalize w13.heap.size = gs at *
    have hS3 := (⟨hmZ.c1, hxZ.c0, hxZ.c1, hxZ.c2⟩ : (fun W : World => W.cell? ⟨hb, 1, none⟩ = some (Value.slice (some ⟨g, 0, none⟩) (n + 1) c9) ∧ W.cell? ⟨w.heap.size, 0, none⟩ = some (Value.int .i64 t) ∧ W.cell? ⟨w.heap.size, 1, none⟩ = some (Value.bool fo) ∧ W.cell? ⟨w.heap.size, 2, none⟩ = some (Value.int .i64 fn)) _)
    refine hK.out _ _ hS3 (fun _ => ?_)
    clear hK K
    refine take_at 9 (some 132) (.agg #[.slice lo ln lc, .slice (some ⟨gs, 0, none⟩) 1 1]) rfl rfl (by kernel_rfl) (by kernel_rfl) (by kernel_rfl) (fun _ _ _ h => h) (by rfl) (fun W hSw => by obtain ⟨q9, q0, q1, q2⟩ := hSw; go_simp) hS3 ?_
    simp only [Act.put, List.setIfInBounds_toArray, List.set_cons_zero, List.set_cons_succ]
    refine wpAnyH_ready (rs := [10]) (by kernel_rfl) (by simp) ?_
    refine AllReadyH.cons rfl (fun K hK => ?_) AllReadyH.nil
    go_simp
    have hbZ := bal (Below.refl _ wZ) (.cells #[.slice lo ln lc, .slice (some ⟨gs, 0, none⟩) 1 1] 94)
    have hmY := hmZ.later hbZ
    have hxY := hxZ.later hbZ
    have hfin := Md.done HH.out hj hn1 hmZ hGZ hgo hgs hOZ hLZ
    obtain ⟨yv, hyv⟩ := hmY.at_ hj
    have hyf := hmY.open_ j
    have hpt : (wZ.alloc (.cells #[.slice lo ln lc, .slice (some ⟨gs, 0, none⟩) 1 1] 94)).grownBy _ (some g) := grown_set _ g j (.pointer (some ⟨wZ.heap.size, 0, none⟩))
    have hmX := hmY.lay (k := j) (by rw [List.length_take, List.length_map]; omega) (.pointer (some ⟨wZ.heap.size, 0, none⟩))
    have hxX := hxY.kept hpt (fun e => hgB (by injection e))
    have hS4 := (⟨hmY.c1, hxY.c0, hxY.c1, hxY.c2⟩ : (fun W : World => W.cell? ⟨hb, 1, none⟩ = some (Value.slice (some ⟨g, 0, none⟩) (n + 1) c9) ∧ W.cell? ⟨w.heap.size, 0, none⟩ = some (Value.int .i64 t) ∧ W.cell? ⟨w.heap.size, 1, none⟩ = some (Value.bool fo) ∧ W.cell? ⟨w.heap.size, 2, none⟩ = some (Value.int .i64 fn)) _)
    refine hK.out _ _ hS4 (fun _ => ?_)
    clear hK K
    refine take_at 11 (some 134) (.pointer (some ⟨g, j, none⟩)) rfl rfl (by kernel_rfl) (by kernel_rfl) (by kernel_rfl) (fun _ _ _ h => h) (by rfl) (fun W hSw => by obtain ⟨q9, q0, q1, q2⟩ := hSw; go_simp; exact fun hq => absurd hq (by omega)) hS4 ?_
    simp only [Act.put, List.setIfInBounds_toArray, List.set_cons_zero, List.set_cons_succ]
    refine wpAnyH_ready (rs := [12]) (by kernel_rfl) (by simp) ?_
    refine AllReadyH.cons rfl (fun K hK => ?_) AllReadyH.nil
    go_simp
    have hS5 := (⟨hmX.c1, hxX.c0, hxX.c1, hxX.c2⟩ : (fun W : World => W.cell? ⟨hb, 1, none⟩ = some (Value.slice (some ⟨g, 0, none⟩) (n + 1) c9) ∧ W.cell? ⟨w.heap.size, 0, none⟩ = some (Value.int .i64 t) ∧ W.cell? ⟨w.heap.size, 1, none⟩ = some (Value.bool fo) ∧ W.cell? ⟨w.heap.size, 2, none⟩ = some (Value.int .i64 fn)) _)
    refine hK.out _ _ hS5 (fun _ => ?_)
    clear hK K
    refine wpAnyH_done (by kernel_rfl) ?_ _
    refine NoPanic.normal ?_
    go_wp2
    go_ret
    exact ⟨rfl, by rw [HFo.out, HFn.out]; exact hfin⟩
   ·
    go_simp
    have hb13 : Below w12.drew.heap.size w12.drew (w12.alloc (.cells #[.int .i64 t, .bool fo, .int .i64 fn] 35)).drew := bal (Below.refl _ w12.drew) (.cells #[.int .i64 t, .bool fo, .int .i64 fn] 35)
    have hm13 := hmE.later hb13
    have hx13 := hxE.later hb13
    have hG13 := hGE.step (grown_below hb13 none) (by simp)
    have hO13 : Own (w12.alloc (.cells #[.int .i64 t, .bool fo, .int .i64 fn] 35)).drew base (.slice (some ⟨w12.heap.size, 0, none⟩) 1 1) [(t, fo, fn)] := one_own w12.drew base (t, fo, fn) (Nat.le_trans hbase hGE.size)
    have hgs : w.heap.size ≤ w12.heap.size := hGE.size
    generalize (w12.alloc (.cells #[.int .i64 t, .bool fo, .int .i64 fn] 35)).drew = w13 at *
    generalize w12.heap.size = gs at *
    have hS2 := (⟨hm13.c1, hx13.c0, hx13.c1, hx13.c2⟩ : (fun W : World => W.cell? ⟨hb, 1, none⟩ = some (Value.slice (some ⟨g, 0, none⟩) (n + 1) c9) ∧ W.cell? ⟨w.heap.size, 0, none⟩ = some (Value.int .i64 t) ∧ W.cell? ⟨w.heap.size, 1, none⟩ = some (Value.bool fo) ∧ W.cell? ⟨w.heap.size, 2, none⟩ = some (Value.int .i64 fn)) _)
    refine hK.out _ _ hS2 (fun _ => ?_)
    clear hK K
    refine wpAnyH_ready (rs := [6]) (by kernel_rfl) (by simp) ?_
    refine AllReadyH.cons rfl (fun K hK => ?_) AllReadyH.nil
    obtain ⟨lv, wZ, hrun, hL13, hb14⟩ := hap _ hG13
    obtain ⟨lo, ln, lc, rfl⟩ : ∃ lo ln lc, lv = .slice lo ln lc := by rcases hL13.2 with ⟨e, _⟩ | ⟨_, _, _, e, _⟩ <;> exact ⟨_, _, _, e⟩
    refine step_append1 _ _ (some 129) rfl rfl rfl (by rfl) _ _ rfl rfl hrun ?_
    have hmZ := hm13.later hb14
    have hxZ := hx13.later hb14
    have hGZ := hG13.step (grown_below hb14 none) (by simp)
    have hOZ := hO13.later hb14
    have hLZ := hL13
    have hS3 := (⟨hmZ.c1, hxZ.c0, hxZ.c1, hxZ.c2⟩ : (fun W : World => W.cell? ⟨hb, 1, none⟩ = some (Value.slice (some ⟨g, 0, none⟩) (n + 1) c9) ∧ W.cell? ⟨w.heap.size, 0, none⟩ = some (Value.int .i64 t) ∧ W.cell? ⟨w.heap.size, 1, none⟩ = some (Value.bool fo) ∧ W.cell? ⟨w.heap.size, 2, none⟩ = some (Value.int .i64 fn)) _)
    refine hK.out _ _ hS3 (fun _ => ?_)
    clear hK K
    refine take_at 9 (some 132) (.agg #[.slice lo ln lc, .slice (some ⟨gs, 0, none⟩) 1 1]) rfl rfl (by kernel_rfl) (by kernel_rfl) (by kernel_rfl) (fun _ _ _ h => h) (by rfl) (fun W hSw => by obtain ⟨q9, q0, q1, q2⟩ := hSw; go_simp) hS3 ?_
    simp only [Act.put, List.setIfInBounds_toArray, List.set_cons_zero, List.set_cons_succ]
    refine wpAnyH_ready (rs := [10]) (by kernel_rfl) (by simp) ?_
    refine AllReadyH.cons rfl (fun K hK => ?_) AllReadyH.nil
    go_simp
    have hbZ := bal (Below.refl _ wZ) (.cells #[.slice lo ln lc, .slice (some ⟨gs, 0, none⟩) 1 1] 94)
    have hmY := hmZ.later hbZ
    have hxY := hxZ.later hbZ
    have hfin := Md.done HH.out hj hn1 hmZ hGZ hgo hgs hOZ hLZ
    obtain ⟨yv, hyv⟩ := hmY.at_ hj
    have hyf := hmY.open_ j
    have hpt : (wZ.alloc (.cells #[.slice lo ln lc, .slice (some ⟨gs, 0, none⟩) 1 1] 94)).grownBy _ (some g) := grown_set _ g j (.pointer (some ⟨wZ.heap.size, 0, none⟩))
    have hmX := hmY.lay (k := j) (by rw [List.length_take, List.length_map]; omega) (.pointer (some ⟨wZ.heap.size, 0, none⟩))
    have hxX := hxY.kept hpt (fun e => hgB (by injection e))
    have hS4 := (⟨hmY.c1, hxY.c0, hxY.c1, hxY.c2⟩ : (fun W : World => W.cell? ⟨hb, 1, none⟩ = some (Value.slice (some ⟨g, 0, none⟩) (n + 1) c9) ∧ W.cell? ⟨w.heap.size, 0, none⟩ = some (Value.int .i64 t) ∧ W.cell? ⟨w.heap.size, 1, none⟩ = some (Value.bool fo) ∧ W.cell? ⟨w.heap.size, 2, none⟩ = some (Value.int .i64 fn)) _)
    refine hK.out _ _ hS4 (fun _ => ?_)
    clear hK K
    refine take_at 11 (some 134) (.pointer (some ⟨g, j, none⟩)) rfl rfl (by kernel_rfl) (by kernel_rfl) (by kernel_rfl) (fun _ _ _ h => h) (by rfl) (fun W hSw => by obtain ⟨q9, q0, q1, q2⟩ := hSw; go_simp; exact fun hq => absurd hq (by omega)) hS4 ?_
    simp only [Act.put, List.setIfInBounds_toArray, List.set_cons_zero, List.set_cons_succ]
    refine wpAnyH_ready (rs := [12]) (by kernel_rfl) (by simp) ?_
    refine AllReadyH.cons rfl (fun K hK => ?_) AllReadyH.nil
    go_simp
    have hS5 := (⟨hmX.c1, hxX.c0, hxX.c1, hxX.c2⟩ : (fun W : World => W.cell? ⟨hb, 1, none⟩ = some (Value.slice (some ⟨g, 0, none⟩) (n + 1) c9) ∧ W.cell? ⟨w.heap.size, 0, none⟩ = some (Value.int .i64 t) ∧ W.cell? ⟨w.heap.size, 1, none⟩ = some (Value.bool fo) ∧ W.cell? ⟨w.heap.size, 2, none⟩ = some (Value.int .i64 fn)) _)
    refine hK.out _ _ hS5 (fun _ => ?_)
    clear hK K
    refine wpAnyH_done (by kernel_rfl) ?_ _
    refine NoPanic.normal ?_
    go_wp2
    go_ret
    exact ⟨rfl, by rw [HFo.out, HFn.out]; exact hfin⟩
end Go.Proofs.YtjgckfcocmhnhaaGreatDoor.Hy
namespace Go.Proofs.YtjgckfcocmhnhaaGreatDoor.Hy
open Go.RowKit
set_option maxHeartbeats 2000000 in
theorem same_any (ao bo : Option Addr) (n ca cb : Nat) (l : List Smp) (w : World) (hn : n ≤ 1000) (ha : Ms w ao n l) (hb : Ms w bo n l) :
  Calls Tryz.prog 48 #[.slice ao n ca, .slice bo n cb] w fun e w' => e = .returned (.bool true) ∧ Below w.heap.size w w' := by
 obtain ⟨_, hca⟩ := ha
 obtain ⟨_, hcb⟩ := hb
 have HA : Hid _ := hca
 have HB : Hid _ := hcb
 clear hca hcb
 go_enter Tryz.func48, Tryz.ntmps48
 go_wp2
 go_loopw [5] (fun i wr => ∃ j : Nat, j ≤ n ∧ i = .int .i64 j ∧ Below w.heap.size w wr) (fun i _ => n - (intOf i).toNat)
 case atStart => exact ⟨0, by omega, rfl, Below.refl _ _⟩
 case round =>
  obtain ⟨j, hj, rfl, hbw⟩ := hrel
  by_cases hlt : j < n
  ·
   have hd : decide ((j : Int) < (n : Int)) = true := decide_eq_true (by omega)
   obtain ⟨b1, o1, rfl, h1⟩ := HA.out (by omega)
   obtain ⟨b2, o2, rfl, h2⟩ := HB.out (by omega)
   obtain ⟨c0, c1, c2⟩ := h1 j hlt
   obtain ⟨d0, d1, d2⟩ := h2 j hlt
   have x0 := (hbw.cell (World.block_lt_of_cell? _ _ c0)).trans c0
   have x1 := (hbw.cell (World.block_lt_of_cell? _ _ c1)).trans c1
   have x2 := (hbw.cell (World.block_lt_of_cell? _ _ c2)).trans c2
   have y0 := (hbw.cell (World.block_lt_of_cell? _ _ d0)).trans d0
   have y1 := (hbw.cell (World.block_lt_of_cell? _ _ d1)).trans d1
   have y2 := (hbw.cell (World.block_lt_of_cell? _ _ d2)).trans d2
   clear h1 h2 c0 c1 c2 d0 d1 d2 HA HB
   generalize l.getD j s0 = s at *
   obtain ⟨t, o, m⟩ := s
   dsimp only at *
   go_wp2_with fail
   go_quiet (fail)
   go_wp2
   go_roundw
   case rel => exact ⟨j + 1, by omega, by go_num, below_drewN hbw _⟩
   case measure => simp [intOf]; omega
  ·
   have hd : decide ((j : Int) < (n : Int)) = false := decide_eq_false (by omega)
   go_wp2
   go_ret
   exact ⟨rfl, hbw⟩
/-- The ten names. -/
def namesV : Value := .agg #[.string ⟨#[115, 117, 109]⟩, .string ⟨#[97, 118, 103]⟩, .string ⟨#[109, 105, 110]⟩, .string ⟨#[109, 97, 120]⟩, .string ⟨#[99, 111, 117, 110, 116]⟩, .string ⟨#[108, 97, 115, 116]⟩, .string ⟨#[105, 110, 99, 114, 101, 97, 115, 101]⟩, .string ⟨#[114, 97, 116, 101]⟩, .string ⟨#[100, 101, 108, 116, 97]⟩, .string ⟨#[119, 104, 97, 116]⟩]
set_option maxHeartbeats 1000000 in
theorem names_any (w : World) : Calls Tryz.prog 49 #[] w fun e w' => e = .returned namesV ∧ Below w.heap.size w w' := by
 have hb := Below.refl w.heap.size w
 go_enter Tryz.func49, Tryz.ntmps49
 go_wp2
 refine bodyPost_ret (v := namesV) (by simp [results, Tryz.results49, go_sem, namesV]) rfl ⟨rfl, ?_⟩
 repeat' refine Below.setCell ?_ (Nat.le_refl _) _
 exact bal hb _
theorem infoQ : (Tryz.prog.info? 45).map (fun i => (i.zero, i.size, i.bytes)) = some (some (.agg #[.string ⟨#[]⟩, .string ⟨#[]⟩]), 2, 32) := by kernel_rfl
theorem infoQ_parts : ∃ i, Tryz.prog.info? 45 = some i ∧ i.zero = some (.agg #[.string ⟨#[]⟩, .string ⟨#[]⟩]) ∧ i.size = 2 ∧ i.bytes = 32 := by
 have h := infoQ
 cases hi : Tryz.prog.info? 45 with
 | none => rw [hi] at h; cases h
 | some i =>
  rw [hi] at h
  simp only [Option.map_some, Option.some.injEq, Prod.mk.injEq] at h
  exact ⟨i, rfl, h.1, h.2.1, h.2.2⟩
theorem zeroQ : (Value.agg #[.string ⟨#[]⟩, .string ⟨#[]⟩]).cells.size = 2 := by kernel_rfl
/-- A row of pairs, copied. -/
theorem pairs_copied (W : World) (base : Nat) (ad : Addr) (qn qc : Nat) (cs : List Value) (hl : cs.length = qn * 2) (hc : ∀ j u, cs[j]? = some u → W.cell? (ad.add j) = some u) (h1 : ∀ u ∈ cs, u.oneCell' = true) (hq : qn ≤ 1000000) (hb : base ≤ W.heap.size) :
  ∃ lv W', (Builtin.append_ #[31, 31] 31 #[.slice none 0 0, .slice (some ad) qn qc]).run Tryz.prog W = .ok lv W' ∧ W'.ownsRow base 45 2 lv qn cs ∧ Below W.heap.size W W' := by
 obtain ⟨i0, hi, hz0, hz1, hz2⟩ := infoQ_parts
 obtain ⟨v', w', hr, h2, h3, _⟩ := run_append_own (P := Tryz.prog) W base 31 31 45 i0 _ 2 32 Tryz.underlying31 hi hz0 hz1 hz2 zeroQ (by decide) (.slice none 0 0) 0 [] (World.ownsRow_nil W base 45 2) ad qn qc cs hl hc h1 (by unfold maxLen; omega) (by omega) hb
 rw [Nat.zero_add, List.nil_append] at h2
 exact ⟨v', w', hr, h2, (Below.refl _ W).grown h3 (Nat.le_refl _) (fun k hk => by cases hk)⟩
end Go.Proofs.YtjgckfcocmhnhaaGreatDoor.Hy
