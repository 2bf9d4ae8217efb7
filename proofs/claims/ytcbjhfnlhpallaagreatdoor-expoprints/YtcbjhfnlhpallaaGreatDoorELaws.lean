/- Scraped text in plain words: a sample's line is read as the sample; a metric's kind is told by its line; what is printed is read as the same. -/
import Derived.Test.YtcbjhfnlhpallaaGreatDoorELine
namespace Go.Proofs.YtcbjhfnlhpallaaGreatDoor

/-! ### Lines, ended -/
theorem ended_nil : ended [] = [] := rfl
theorem ended_cons (a : Str) (l : List Str) : ended (a :: l) = a ++ 10 :: ended l := by simp [ended]
theorem ended_append (l m : List Str) : ended (l ++ m) = ended l ++ ended m := by simp [ended]
theorem ended_one (a : Str) : ended [a] = a ++ [10] := by simp [ended]
theorem sp_ended : ∀ (l : List Str), (∀ a ∈ l, 10 ∉ a) → sp 10 (ended l) = l ++ [[]]
  | [], _ => rfl
  | a :: l, h => by
    rw [ended_cons, sp_at _ (h a (by simp)), sp_ended l (fun b hb => h b (by simp [hb]))]
    rfl
theorem stepL_nil (st : St) (i : Nat) : stepL st i [] = st := by simp [stepL]
theorem runL_one (st : St) (i : Nat) (s : Str) : runL st i [s] = stepL st i s := rfl
theorem runL_snoc (st : St) (i : Nat) (l : List Str) (s : Str) : runL st i (l ++ [s]) = stepL (runL st i l) (i + l.length) s := by
  rw [runL_append]; rfl
theorem body_ended {l : List Str} (h : ∀ a ∈ l, 10 ∉ a) (hl : (ended l).length ≤ 3000) : bodyS (ended l) = runL st0 1 l := by
  unfold bodyS
  rw [if_neg (by omega), sp_ended l h, runL_snoc, stepL_nil]

/-! ### Texts that stand as one word -/
def Closed (t : Str) : Prop := ∀ cur r, wdG false cur (t ++ r) = wdG false (cur ++ t) r
theorem Closed.nil : Closed [] := fun cur r => by simp
theorem Closed.append {a b : Str} (h : Closed a) (k : Closed b) : Closed (a ++ b) := fun cur r => by
  rw [List.append_assoc, h, k, List.append_assoc]
theorem Closed.one {c : UInt8} (h1 : c ≠ 34) (h2 : c ≠ 32) : Closed [c] := fun cur r => by
  show wdG false cur (c :: r) = _
  rw [wdG_other (by simp) h1 (by simp [h2])]
theorem Closed.plain : ∀ {t : Str}, (∀ c ∈ t, c ≠ 34 ∧ c ≠ 32) → Closed t
  | [], _ => Closed.nil
  | c :: t, h => by
    have h1 := h c (by simp)
    exact Closed.append (a := [c]) (Closed.one h1.1 h1.2) (Closed.plain fun d hd => h d (by simp [hd]))
theorem wd_escC (c : UInt8) (cur r : Str) : wdG true cur (escC c ++ r) = wdG true (cur ++ escC c) r := by
  unfold escC
  split
  · show wdG true cur (92 :: c :: r) = _
    rw [wdG_esc]
  · rename_i h
    have h1 : ¬ c = 92 := fun e => h (Or.inl e)
    have h2 : ¬ c = 34 := fun e => h (Or.inr e)
    show wdG true cur (c :: r) = _
    rw [wdG_other (by simp [h1]) h2 (by simp)]
theorem wd_esc : ∀ (v cur r : Str), wdG true cur (esc v ++ r) = wdG true (cur ++ esc v) r
  | [], cur, r => by simp [esc]
  | c :: v, cur, r => by
    have e : esc (c :: v) = escC c ++ esc v := by simp [esc]
    rw [e, List.append_assoc, wd_escC, wd_esc v, List.append_assoc]
theorem Closed.quoted (v : Str) : Closed ([34] ++ esc v ++ [34]) := fun cur r => by
  rw [List.append_assoc, List.append_assoc]
  show wdG false cur (34 :: (esc v ++ (34 :: r))) = _
  rw [wdG_quote]
  show wdG true (cur ++ [34]) (esc v ++ 34 :: r) = _
  rw [wd_esc, wdG_quote]
  simp
theorem name_plain {n : Str} (h : fName n = true) : ∀ c ∈ n, c ≠ 34 ∧ c ≠ 32 := fun c hc => by
  have := name_no h c hc
  exact ⟨ch_ne this (by decide), ch_ne this (by decide)⟩
theorem Closed.pair {p : Pr} (h : fName p.1 = true) : Closed (pairT p) := by
  have e : pairT p = p.1 ++ [61] ++ ([34] ++ esc p.2 ++ [34]) := by simp [pairT]
  rw [e]
  exact ((Closed.plain (name_plain h)).append (Closed.one (by decide) (by decide))).append (Closed.quoted _)
theorem Closed.inn : ∀ {l : List Pr}, (∀ p ∈ l, fName p.1 = true) → Closed (inner l)
  | [], _ => by
    have e : inner [] = [] := by simp [inner, Lib.join]
    rw [e]; exact Closed.nil
  | [p], h => by rw [inner_one]; exact Closed.pair (h p (by simp))
  | p :: q :: l, h => by
    rw [inner_cons]
    exact (Closed.pair (h p (by simp))).append ((Closed.one (by decide) (by decide)).append (Closed.inn fun x hx => h x (List.mem_cons_of_mem _ hx)))
theorem Closed.print {l : List Pr} (h : fIs l = true) : Closed (fPrint l) := by
  have hi := (is_iff l).1 h
  have hm : Closed (metric l) := by
    unfold metric
    split
    · rename_i hn; exact Closed.plain (name_plain hn)
    · exact Closed.nil
  have ho : ∀ p ∈ others l, fName p.1 = true := by
    intro p hp
    unfold others at hp
    split at hp
    · exact (hi.2.1 p (List.mem_filter.1 hp).1).1
    · exact (hi.2.1 p hp).1
  unfold fPrint
  rw [if_pos h]
  split
  · exact hm
  · exact ((hm.append (Closed.one (by decide) (by decide))).append (Closed.inn ho)).append (Closed.one (by decide) (by decide))
theorem dgs_plain {l : Str} (h : Fx.dgs l = true) : ∀ c ∈ l, c ≠ 34 ∧ c ≠ 32 := fun c hc => by
  unfold Fx.dgs at h
  have := List.all_eq_true.1 h c hc
  unfold Fx.isDg at this
  have := of_decide_eq_true this
  constructor
  · intro e; subst e; revert this; decide
  · intro e; subst e; revert this; decide
theorem prU_plain (m : Nat) : ∀ c ∈ Fx.prU m, c ≠ 34 ∧ c ≠ 32 := fun c hc => by
  unfold Fx.prU at hc
  rcases List.mem_append.1 hc with h | h
  · exact dgs_plain (Fx.dgs_dec _) c h
  · split at h
    · cases h
    · rcases List.mem_cons.1 h with rfl | h
      · decide
      · exact dgs_plain (Fx.frac_facts (Nat.mod_lt _ (by decide))).1 c h
theorem num_plain (x : Option Int) : ∀ c ∈ Fx.fPrint x, c ≠ 34 ∧ c ≠ 32 := fun c hc => by
  cases x with
  | none =>
    have hc : c ∈ ([111, 118, 102] : Str) := hc
    simp at hc
    rcases hc with rfl | rfl | rfl <;> decide
  | some n =>
    have hc : c ∈ (if n < 0 then [45] else []) ++ Fx.prU n.natAbs := hc
    rcases List.mem_append.1 hc with h | h
    · split at h
      · simp at h; subst h; decide
      · cases h
    · exact prU_plain _ c h
theorem itoa_plain {t : Int} (h : 0 ≤ t) : ∀ c ∈ Lib.itoa t, c ≠ 34 ∧ c ≠ 32 := by
  obtain ⟨u, rfl⟩ : ∃ u : Nat, t = u := ⟨t.toNat, by omega⟩
  rw [Lib.itoa_nonneg]
  exact dgs_plain (Fx.dgs_dec u)
theorem wd_last {t : Str} (h : Closed t) (cur : Str) : wdG false cur t = [cur ++ t] := by
  have := h cur []
  rw [List.append_nil] at this
  rw [this, wdG_nil]
theorem wd_step {t : Str} (h : Closed t) (r : Str) : wd (t ++ 32 :: r) = t :: wd r := by
  show wdG false [] (t ++ 32 :: r) = _
  rw [h, wdG_blank]
  rfl
theorem wd_end {t : Str} (h : Closed t) : wd t = [t] := wd_last h []

/-! ### A sample's line -/
theorem isS_iff (x : Scr) : fIsS x = true ↔ fIs x.ls = true ∧ fName (mname x) = true ∧ Fx.fIs x.ov x.n = true ∧ (0 ≤ x.t ∧ x.t ≤ 1000000) ∧ (x.has = true ∨ x.t = 0) ∧ (0 ≤ x.kind ∧ x.kind ≤ 2) := by
  simp [fIsS, Bool.and_eq_true]
theorem num_back {o : Bool} {n : Int} (h : Fx.fIs o n = true) (h1 : n ≤ 9223372036854775807) : Fx.fParse (Fx.fPrint (Fx.cnt o n)) = some (Fx.cnt o n) ∧ Fx.ov (Fx.cnt o n) = o ∧ Fx.nn (Fx.cnt o n) = n := by
  have hlow : -9223372036854775807 ≤ n := by
    unfold Fx.fIs at h
    split at h
    · have := of_decide_eq_true h; omega
    · exact of_decide_eq_true h
  refine ⟨Fx.print_read (Fx.V.cnt (by omega) h1), ?_, ?_⟩
  · unfold Fx.fIs at h
    unfold Fx.cnt
    cases o with
    | true => simp [Fx.ov]
    | false => rw [if_neg (by simp; omega)]; rfl
  · unfold Fx.fIs at h
    unfold Fx.cnt
    cases o with
    | true => simp at h; simp [Fx.nn, h]
    | false => rw [if_neg (by simp; omega)]; rfl
theorem wd_sLine {x : Scr} (h : fIsS x = true) : wd (sLine x) = fPrint x.ls :: Fx.fPrint (Fx.cnt x.ov x.n) :: (if x.has = true then [Lib.itoa x.t] else []) := by
  obtain ⟨h1, h2, h3, h4, h5, h6⟩ := (isS_iff x).1 h
  have c1 := Closed.print h1
  have c2 := Closed.plain (num_plain (Fx.cnt x.ov x.n))
  unfold sLine
  split
  · have e : fPrint x.ls ++ [32] ++ Fx.fPrint (Fx.cnt x.ov x.n) ++ 32 :: Lib.itoa x.t = fPrint x.ls ++ 32 :: (Fx.fPrint (Fx.cnt x.ov x.n) ++ 32 :: Lib.itoa x.t) := by simp
    rw [e, wd_step c1, wd_step c2, wd_end (Closed.plain (itoa_plain h4.1))]
  · have e : fPrint x.ls ++ [32] ++ Fx.fPrint (Fx.cnt x.ov x.n) ++ [] = fPrint x.ls ++ 32 :: Fx.fPrint (Fx.cnt x.ov x.n) := by simp
    rw [e, wd_step c1, wd_end c2]
theorem line_sLine {x : Scr} (h : fIsS x = true) (hn : x.n ≤ 9223372036854775807) (hl : (sLine x).length ≤ 300) : lineE (sLine x) = 0 ∧ lineS (sLine x) = setK x 0 := by
  obtain ⟨h1, h2, h3, h4, h5, h6⟩ := (isS_iff x).1 h
  obtain ⟨p1, p2, p3⟩ := parse_print h1
  obtain ⟨n1, n2, n3⟩ := num_back h3 hn
  have hs : fSet (fPrint x.ls) = true := by
    unfold fSet
    rw [p1, p3]
    exact h2
  have hw := wd_sLine h
  have hE : wE (wd (sLine x)) = 0 ∧ wS (wd (sLine x)) = setK x 0 := by
    rw [hw]
    obtain ⟨ls, o, n, t, has, kd⟩ := x
    dsimp only at *
    cases has with
    | true =>
      have ht := tm_atoi (v := t) rfl h4.1 h4.2
      simp only [wE, wS, hs, n1, Fx.pe, Fx.po, Fx.pn, n2, n3, ht, p3, setK, if_true, Option.isSome_some, Option.getD_some]
      simp
      omega
    | false =>
      have ht : t = 0 := by simpa using h5
      subst ht
      simp [wE, wS, hs, n1, Fx.pe, Fx.po, Fx.pn, n2, n3, p3, setK]
  have hE0 : lineE (sLine x) = 0 := by unfold lineE; rw [if_neg (by omega)]; exact hE.1
  refine ⟨hE0, ?_⟩
  unfold lineS
  rw [if_pos hE0]
  exact hE.2
theorem metric_name {l : List Pr} (h : fName (fGet l nm) = true) : metric l = fGet l nm := by unfold metric; rw [if_pos h]
theorem print_head {l : List Pr} (h : fIs l = true) (hn : fName (fGet l nm) = true) : ∃ r, fPrint l = fGet l nm ++ r := by
  unfold fPrint
  rw [if_pos h, metric_name hn]
  split
  · exact ⟨[], by simp⟩
  · exact ⟨[123] ++ inner (others l) ++ [125], by simp⟩
theorem name_head {n : Str} (h : fName n = true) (r : Str) : (n ++ r).head? ≠ some 35 ∧ n ++ r ≠ [] := by
  cases n with
  | nil => exact absurd rfl (name_ne h)
  | cons c n =>
    refine ⟨fun e => ?_, by simp⟩
    have e : c = 35 := by simpa using e
    have := name_no h c (by simp)
    rw [e] at this
    revert this; decide
theorem sLine_head {x : Scr} (h : fIsS x = true) : (sLine x).head? ≠ some 35 ∧ sLine x ≠ [] := by
  obtain ⟨h1, h2, _⟩ := (isS_iff x).1 h
  obtain ⟨r, hr⟩ := print_head h1 h2
  unfold sLine
  rw [hr]
  have := name_head h2 (r ++ ([32] ++ (Fx.fPrint (Fx.cnt x.ov x.n) ++ (if x.has = true then 32 :: Lib.itoa x.t else []))))
  simpa [mname, List.append_assoc] using this

/-! ### A kind's line -/
theorem name_no32 {n : Str} (h : fName n = true) : 32 ∉ n := fun hm => (name_plain h 32 hm).2 rfl
theorem kwd_no32 (x : Int) : 32 ∉ kwd x := by
  unfold kwd
  split
  · decide
  · split
    · decide
    · split <;> decide
theorem kOf_kwd {x : Int} (h : x = 0 ∨ x = 1 ∨ x = 2) : kOf (kwd x) = some x := by
  rcases h with rfl | rfl | rfl <;> decide
theorem note_kLine {n : Str} {x : Int} (hn : fName n = true) (hx : x = 0 ∨ x = 1 ∨ x = 2) : fNote (kLine n x) = some (n, x) := by
  unfold fNote
  have e : kLine n x = [35] ++ 32 :: (tWord ++ 32 :: (n ++ 32 :: kwd x)) := by simp [kLine, tWord]
  rw [e, sp_at _ (by decide), sp_at _ (by decide), sp_at _ (name_no32 hn), sp_none (kwd_no32 x)]
  simp [note4, hn, kOf_kwd hx]
theorem step_kLine (st : St) (i : Nat) {n : Str} {x : Int} (hn : fName n = true) (hx : x = 0 ∨ x = 1 ∨ x = 2) : stepL st i (kLine n x) = ⟨upd st.k n x, st.out, st.bad⟩ := by
  have e1 : kLine n x ≠ [] := by simp [kLine]
  have e2 : (kLine n x).head? = some 35 := by simp [kLine]
  unfold stepL
  rw [if_neg e1, if_pos e2, note_kLine hn hx]
  rfl
theorem step_sLine (st : St) (i : Nat) {x : Scr} (h : fIsS x = true) (hn : x.n ≤ 9223372036854775807) (hl : (sLine x).length ≤ 300) (hk : st.k (mname x) = x.kind) : stepL st i (sLine x) = ⟨st.k, st.out ++ [x], st.bad⟩ := by
  obtain ⟨e1, e2⟩ := sLine_head h
  obtain ⟨e3, e4⟩ := line_sLine h hn hl
  unfold stepL
  rw [if_neg e2, if_neg e1, if_pos e3, e4]
  have : mname (setK x 0) = mname x := rfl
  rw [this, hk]
  rfl

/-! ### What is printed is read as the same -/
theorem good_iff (x : Scr) : good x = true ↔ fIsS x = true ∧ (sLine x).length ≤ 300 := by simp [good]
theorem run_prL : ∀ (l : List Scr) (st : St) (i : Nat), (∀ x ∈ l, good x = true ∧ x.n ≤ 9223372036854775807) → ∃ k, runL st i (prL st.k l) = ⟨k, st.out ++ l, st.bad⟩
  | [], st, i, _ => ⟨st.k, by simp [prL, runL]⟩
  | x :: l, st, i, h => by
    obtain ⟨hg, hn⟩ := h x (by simp)
    obtain ⟨hi, hl⟩ := (good_iff x).1 hg
    obtain ⟨_, hnm, _, _, _, hk⟩ := (isS_iff x).1 hi
    have hrest : ∀ y ∈ l, good y = true ∧ y.n ≤ 9223372036854775807 := fun y hy => h y (by simp [hy])
    unfold prL
    by_cases e : st.k (mname x) = x.kind
    · rw [if_pos e, runL, step_sLine st i hi hn hl e]
      obtain ⟨k, hk⟩ := run_prL l ⟨st.k, st.out ++ [x], st.bad⟩ (i + 1) hrest
      exact ⟨k, by simpa using hk⟩
    · rw [if_neg e, runL, step_kLine st i hnm (by omega), runL, step_sLine _ _ hi hn hl (by simp [upd])]
      obtain ⟨k, hk⟩ := run_prL l ⟨upd st.k (mname x) x.kind, st.out ++ [x], st.bad⟩ (i + 1 + 1) hrest
      exact ⟨k, by simpa using hk⟩
theorem name_no10 {n : Str} (h : fName n = true) : 10 ∉ n := fun hm => ch_ne (name_no h 10 hm) (d := 10) (by decide) rfl
theorem esc_no10 {v : Str} (h : 10 ∉ v) : 10 ∉ esc v := fun hm => by
  unfold esc at hm
  obtain ⟨c, hc, hm⟩ := List.mem_flatMap.1 hm
  unfold escC at hm
  split at hm
  · rename_i hcc
    simp at hm
    subst hm
    rcases hcc with h | h <;> revert h <;> decide
  · simp at hm
    subst hm
    exact h hc
theorem val_no10 {v : Str} (h : fVal v = true) : 10 ∉ v := fun hm => by
  unfold fVal at h
  simp only [Bool.and_eq_true, Bool.not_eq_true'] at h
  have := h.2
  rw [List.contains_eq_mem, decide_eq_false_iff_not] at this
  exact this hm
theorem inner_no10 : ∀ {l : List Pr}, (∀ p ∈ l, fName p.1 = true ∧ fVal p.2 = true) → 10 ∉ inner l
  | [], _ => by simp [inner, Lib.join]
  | [p], h => by
    rw [inner_one]
    have := h p (by simp)
    simp [pairT, name_no10 this.1, esc_no10 (val_no10 this.2)]
  | p :: q :: l, h => by
    rw [inner_cons]
    have h1 := h p (by simp)
    have h2 := inner_no10 (l := q :: l) fun x hx => h x (List.mem_cons_of_mem _ hx)
    simp [pairT, name_no10 h1.1, esc_no10 (val_no10 h1.2), h2]
theorem print_no10 {l : List Pr} (h : fIs l = true) : 10 ∉ fPrint l := by
  have hi := (is_iff l).1 h
  have hm : 10 ∉ metric l := by
    unfold metric
    split
    · rename_i hn; exact name_no10 hn
    · simp
  have ho : ∀ p ∈ others l, fName p.1 = true ∧ fVal p.2 = true := by
    intro p hp
    unfold others at hp
    split at hp
    · exact hi.2.1 p (List.mem_filter.1 hp).1
    · exact hi.2.1 p hp
  have hin := inner_no10 ho
  unfold fPrint
  rw [if_pos h]
  split
  · exact hm
  · simp [hm, hin]
theorem dgs_no10 {l : Str} (h : Fx.dgs l = true) : 10 ∉ l := fun hc => by
  unfold Fx.dgs at h
  have := List.all_eq_true.1 h 10 hc
  revert this; decide
theorem num_no10 (x : Option Int) : 10 ∉ Fx.fPrint x := fun hc => by
  cases x with
  | none =>
    have hc : (10 : UInt8) ∈ ([111, 118, 102] : Str) := hc
    revert hc; decide
  | some n =>
    have hc : (10 : UInt8) ∈ (if n < 0 then [45] else []) ++ Fx.prU n.natAbs := hc
    rcases List.mem_append.1 hc with h | h
    · split at h
      · revert h; decide
      · cases h
    · unfold Fx.prU at h
      rcases List.mem_append.1 h with h | h
      · exact dgs_no10 (Fx.dgs_dec _) h
      · split at h
        · cases h
        · rcases List.mem_cons.1 h with h | h
          · revert h; decide
          · exact dgs_no10 (Fx.frac_facts (Nat.mod_lt _ (by decide))).1 h
theorem sLine_no10 {x : Scr} (h : fIsS x = true) : 10 ∉ sLine x := by
  obtain ⟨h1, h2, h3, h4, h5, h6⟩ := (isS_iff x).1 h
  have a := print_no10 h1
  have b := num_no10 (Fx.cnt x.ov x.n)
  have c : 10 ∉ Lib.itoa x.t := by
    obtain ⟨u, hu⟩ : ∃ u : Nat, x.t = u := ⟨x.t.toNat, by omega⟩
    rw [hu, Lib.itoa_nonneg]
    exact dgs_no10 (Fx.dgs_dec u)
  unfold sLine
  split <;> simp [a, b, c]
theorem kwd_no10 (x : Int) : 10 ∉ kwd x := by
  unfold kwd
  split
  · decide
  · split
    · decide
    · split <;> decide
theorem kLine_no10 {n : Str} (h : fName n = true) (x : Int) : 10 ∉ kLine n x := by
  simp [kLine, name_no10 h, kwd_no10 x]
theorem prL_no10 : ∀ (l : List Scr) (k : Str → Int), (∀ x ∈ l, good x = true) → ∀ a ∈ prL k l, 10 ∉ a
  | [], k, _, a, ha => by simp [prL] at ha
  | x :: l, k, h, a, ha => by
    have hi := ((good_iff x).1 (h x (by simp))).1
    have hnm := ((isS_iff x).1 hi).2.1
    have hr : ∀ y ∈ l, good y = true := fun y hy => h y (by simp [hy])
    unfold prL at ha
    split at ha
    · rcases List.mem_cons.1 ha with rfl | ha
      · exact sLine_no10 hi
      · exact prL_no10 l k hr a ha
    · rcases List.mem_cons.1 ha with rfl | ha
      · exact kLine_no10 hnm _
      · rcases List.mem_cons.1 ha with rfl | ha
        · exact sLine_no10 hi
        · exact prL_no10 l _ hr a ha
theorem print_body {l : List Scr} (h : ∀ x ∈ l, good x = true ∧ x.n ≤ 9223372036854775807) (hl : (ended (prL (fun _ => 0) l)).length ≤ 3000) : (bodyS (ended (prL (fun _ => 0) l))).out = l ∧ (bodyS (ended (prL (fun _ => 0) l))).bad = [] := by
  rw [body_ended (prL_no10 l _ fun x hx => (h x hx).1) hl]
  obtain ⟨k, hk⟩ := run_prL l st0 1 h
  have hk : runL st0 1 (prL (fun _ => 0) l) = ⟨k, l, []⟩ := by simpa [st0] using hk
  rw [hk]
  exact ⟨rfl, rfl⟩
end Go.Proofs.YtcbjhfnlhpallaaGreatDoor
