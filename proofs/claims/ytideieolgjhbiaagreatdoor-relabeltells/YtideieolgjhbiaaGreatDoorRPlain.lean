/- Relabelling in plain words: whether a rule is one, what comes of a set, a rule's text. -/
import Derived.Test.YtideieolgjhbiaaGreatDoorAll
import Derived.Test.YtideieolgjhbiaaGreatDoorText
namespace Go.Proofs.YtideieolgjhbiaaGreatDoor

/-- A rule: what it does, its matcher, its target, its text. -/
structure Rl where
  act : Int
  frm : Mat
  tgt : Str
  txt : Str
def rl0 : Rl := ⟨0, mat0, [], []⟩
def fText (s : Str) : Bool := decide (s.length ≤ 30) && !s.contains 10
def bare (r : Rl) : Bool := (r.tgt == []) && (r.txt == [])
def fRule (r : Rl) : Bool :=
  if r.act = 1 then fMat r.frm && bare r else if r.act = 2 then fMat r.frm && bare r
  else if r.act = 3 then fMat r.frm && fName r.tgt && fText r.txt
  else if r.act = 4 then (r.frm.name == []) && decide (r.frm.kind = 0) && fText r.frm.text && bare r else false
def dol (t v : Str) : Str := t.flatMap fun c => if c = 36 then v else [c]
def hit (l : List Pr) (r : Rl) : Bool := fOne r.frm (fGet l r.frm.name)
def setP (l : List Pr) (r : Rl) : List Pr := [(r.tgt, dol r.txt (fGet l r.frm.name))]
def stays (r : Rl) (p : Pr) : Bool := decide (p.1 = nm) || !gm r.frm.text p.1
def thin (l : List Pr) (r : Rl) : List Pr := l.filter (stays r)
/-- What one rule makes of a set; whether it is kept; the error. -/
def ap1S (l : List Pr) (r : Rl) : List Pr :=
  if r.act = 1 then l else if r.act = 2 then l else if r.act = 3 then (if hit l r = true then withL l (setP l r) else l) else thin l r
def ap1K (l : List Pr) (r : Rl) : Bool :=
  if r.act = 1 then hit l r else if r.act = 2 then !hit l r else if r.act = 3 then (if hit l r = true then decide (withE l (setP l r) = 0) else true) else true
def ap1E (l : List Pr) (r : Rl) : Int :=
  if r.act = 3 then (if hit l r = true then withE l (setP l r) else 0) else 0
def apAll : List Pr → List Rl → List Pr × Bool × Int
  | l, [] => (l, true, 0)
  | l, r :: rs => if ap1K l r = true then apAll (ap1S l r) rs else ([], false, ap1E l r)
def rulesOk (rs : List Rl) : Bool := rs.all fRule
def fApply (l : List Pr) (rs : List Rl) : List Pr × Bool × Int :=
  if rulesOk rs = true then (if fIs l = true then apAll l rs else ([], false, 30)) else ([], false, 12)

/-! ### Nothing but sets comes out -/
theorem lastOf_rises {l : List Pr} (h : (l.map (·.1)).Nodup) : lastOf l = l := by
  induction l with
  | nil => rfl
  | cons a r ih =>
    rw [List.map_cons, List.nodup_cons] at h
    rw [lastOf, ih h.2, if_neg]
    intro hx
    obtain ⟨q, hq, e⟩ := List.any_eq_true.1 hx
    exact h.1 (by rw [← of_decide_eq_true e]; exact List.mem_map_of_mem (f := fun q : Pr => q.1) hq)
theorem latest_nil {l : List Pr} (h : fIs l = true) : latest l [] = l := by
  unfold latest
  have hr := ((is_iff l).1 h).2.2
  rw [List.append_nil, lastOf_rises (rises_nodup hr), srt_rises hr]
theorem with_nil (l : List Pr) : withE l [] = (if fIs l = true then 0 else 30) ∧ withL l [] = (if fIs l = true then l else []) := by
  by_cases h : fIs l = true
  · have e : withE l [] = 0 := by unfold withE; rw [if_pos h, latest_nil h, full_is h, if_pos h]
    refine ⟨by rw [e, if_pos h], ?_⟩
    unfold withL
    rw [e, if_pos rfl, if_pos h, latest_nil h, full_is h]
  · have e : withE l [] = 30 := by unfold withE; rw [if_neg h]
    refine ⟨by rw [e, if_neg h], ?_⟩
    unfold withL
    rw [e, if_neg (by omega), if_neg h]
theorem with_is {l p : List Pr} (h : withE l p = 0) : fIs (withL l p) = true := by
  unfold withL
  rw [if_pos h]
  unfold withE at h
  split at h
  · split at h
    · assumption
    · omega
  · omega
theorem withE_or (l p : List Pr) : withE l p = 0 ∨ withE l p = 30 := by
  unfold withE
  split
  · split
    · exact Or.inl rfl
    · exact Or.inr rfl
  · exact Or.inr rfl
theorem ap1_is {l : List Pr} {r : Rl} (h : fIs l = true) (hk : ap1K l r = true) : fIs (ap1S l r) = true := by
  unfold ap1S
  unfold ap1K at hk
  by_cases h1 : r.act = 1
  · rw [if_pos h1]; exact h
  · by_cases h2 : r.act = 2
    · rw [if_neg h1, if_pos h2]; exact h
    · by_cases h3 : r.act = 3
      · rw [if_neg h1, if_neg h2, if_pos h3] at *
        by_cases hh : hit l r = true
        · rw [if_pos hh] at *
          exact with_is (of_decide_eq_true hk)
        · rw [if_neg hh]; exact h
      · rw [if_neg h1, if_neg h2, if_neg h3]
        exact is_filter h _
theorem ap1_e {l : List Pr} {r : Rl} (hk : ap1K l r = true) : ap1E l r = 0 := by
  unfold ap1K at hk
  unfold ap1E
  by_cases h3 : r.act = 3
  · have h1 : ¬ r.act = 1 := by omega
    have h2 : ¬ r.act = 2 := by omega
    rw [if_neg h1, if_neg h2, if_pos h3] at hk
    rw [if_pos h3]
    by_cases hh : hit l r = true
    · rw [if_pos hh] at *
      exact of_decide_eq_true hk
    · rw [if_neg hh]
  · rw [if_neg h3]
theorem apAll_is {l : List Pr} {rs : List Rl} (h : fIs l = true) (hk : (apAll l rs).2.1 = true) : fIs (apAll l rs).1 = true := by
  induction rs generalizing l with
  | nil => exact h
  | cons r rs ih =>
    rw [apAll] at *
    by_cases hh : ap1K l r = true
    · rw [if_pos hh] at *
      exact ih (ap1_is h hh) hk
    · rw [if_neg hh] at hk; cases hk
theorem apAll_no {l : List Pr} {rs : List Rl} (hk : (apAll l rs).2.1 = false) : (apAll l rs).1 = [] := by
  induction rs generalizing l with
  | nil => cases hk
  | cons r rs ih =>
    rw [apAll] at *
    by_cases hh : ap1K l r = true
    · rw [if_pos hh] at *
      exact ih hk
    · rw [if_neg hh]
theorem apAll_e {l : List Pr} {rs : List Rl} (hk : (apAll l rs).2.1 = true) : (apAll l rs).2.2 = 0 := by
  induction rs generalizing l with
  | nil => rfl
  | cons r rs ih =>
    rw [apAll] at *
    by_cases hh : ap1K l r = true
    · rw [if_pos hh] at *
      exact ih hk
    · rw [if_neg hh] at hk; cases hk
theorem apAll_append (l : List Pr) (a b : List Rl) : apAll l (a ++ b) = if (apAll l a).2.1 = true then apAll (apAll l a).1 b else apAll l a := by
  induction a generalizing l with
  | nil => simp [apAll]
  | cons r a ih =>
    rw [List.cons_append, apAll, apAll]
    by_cases hh : ap1K l r = true
    · rw [if_pos hh, if_pos hh, ih]
    · rw [if_neg hh, if_neg hh]; rfl
theorem apAll_snoc (l : List Pr) (a : List Rl) (r : Rl) (h : (apAll l a).2.1 = true) : apAll l (a ++ [r]) = if ap1K (apAll l a).1 r = true then (ap1S (apAll l a).1 r, true, 0) else ([], false, ap1E (apAll l a).1 r) := by
  rw [apAll_append, if_pos h]
  rfl

/-! ### What stays, by names -/
theorem keep_thin (l : List Pr) (r : Rl) : fKeep l ((l.filter (stays r)).map (·.1)) = thin l r := by
  unfold fKeep thin
  apply List.filter_congr
  intro p hp
  rw [Bool.eq_iff_iff, List.contains_iff_mem, List.mem_map]
  constructor
  · rintro ⟨q, hq, e⟩
    have h := (List.mem_filter.1 hq).2
    unfold stays at *
    rw [e] at h
    exact h
  · intro h
    exact ⟨p, List.mem_filter.2 ⟨hp, h⟩, rfl⟩

/-! ### Filled -/
theorem dol_eq (t v : Str) : Lib.replaceAll t [36] v = dol t v := by
  by_cases h : v = [36]
  · subst h
    have e : dol t [36] = t := by
      unfold dol
      induction t with
      | nil => rfl
      | cons c t ih =>
        rw [List.flatMap_cons, ih]
        by_cases hc : c = 36
        · subst hc; rfl
        · rw [if_neg hc]; rfl
    rw [e]
    unfold Lib.replaceAll Lib.replace
    rw [if_pos (by simp)]
  · exact replaceAll_one 36 v t (fun e => h e.symm)
theorem dol_len (t v : Str) : (dol t v).length ≤ t.length * (v.length + 1) := by
  unfold dol
  induction t with
  | nil => simp
  | cons c t ih =>
    rw [List.flatMap_cons, List.length_append, List.length_cons, Nat.succ_mul]
    have : (if c = 36 then v else [c]).length ≤ v.length + 1 := by split <;> simp
    omega
theorem dol_append (s t v : Str) : dol (s ++ t) v = dol s v ++ dol t v := by simp [dol]
theorem dol_free {t : Str} (h : ∀ c ∈ t, c ≠ 36) (v : Str) : dol t v = t := by
  unfold dol
  induction t with
  | nil => rfl
  | cons c t ih =>
    rw [List.flatMap_cons, ih fun d hd => h d (List.mem_cons_of_mem _ hd), if_neg (h c List.mem_cons_self)]
    rfl
theorem dol_sign (v : Str) : dol [36] v = v := by simp [dol]

/-! ### Printed -/
def quo (s : Str) : Str := [34] ++ esc s ++ [34]
def signT (k : Int) : Str := if k = 1 then [61] else if k = 2 then [33, 61] else if k = 3 then [94, 61] else [42, 61]
def condT (m : Mat) : Str := m.name ++ [32] ++ signT m.kind ++ [32] ++ quo m.text
def keepT : Str := [107, 101, 101, 112, 32]
def dropT : Str := [100, 114, 111, 112, 32]
def replT : Str := [114, 101, 112, 108, 97, 99, 101, 32]
def ldropT : Str := [108, 97, 98, 101, 108, 100, 114, 111, 112, 32]
def lineT (r : Rl) : Str :=
  if r.act = 1 then keepT ++ condT r.frm else if r.act = 2 then dropT ++ condT r.frm
  else if r.act = 3 then replT ++ condT r.frm ++ [32] ++ r.tgt ++ [32] ++ quo r.txt else ldropT ++ quo r.frm.text
def fPrintR (r : Rl) : Str := if fRule r = true then lineT r else []
end Go.Proofs.YtideieolgjhbiaaGreatDoor
