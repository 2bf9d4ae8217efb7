/- Patterns in plain words: what matches, and what the search for it keeps. -/
import Derived.Lib.Bytealg
import Derived.Lib.Index
import Derived.Lib.TrimByte
namespace Go.Proofs.YtideieolgjhbiaaGreatDoor

/-- A star: some end of the text is taken. -/
def star (f : List UInt8 → Bool) : List UInt8 → Bool
  | [] => f []
  | d :: t => f (d :: t) || star f t
/-- Does the text as a whole match? -/
def gm : List UInt8 → List UInt8 → Bool
  | [], s => s.isEmpty
  | c :: p, s => if c = 42 then star (fun t => gm p t) s else
    match s with
    | [] => false
    | d :: t => (c == 63 || c == d) && gm p t
theorem gm_nil (s : List UInt8) : gm [] s = s.isEmpty := by simp [gm]
theorem gm_star (p s : List UInt8) : gm (42 :: p) s = star (gm p) s := by rw [gm.eq_def]; simp
theorem gm_cons {c : UInt8} (h : c ≠ 42) (p : List UInt8) (d : UInt8) (t : List UInt8) : gm (c :: p) (d :: t) = ((c == 63 || c == d) && gm p t) := by rw [gm]; simp [h]
theorem gm_cons_nil {c : UInt8} (h : c ≠ 42) (p : List UInt8) : gm (c :: p) [] = false := by rw [gm]; simp [h]
theorem star_iff (f : List UInt8 → Bool) (s : List UInt8) : star f s = true ↔ ∃ a b, s = a ++ b ∧ f b = true := by
  induction s with
  | nil =>
    rw [star]
    constructor
    · intro h; exact ⟨[], [], rfl, h⟩
    · rintro ⟨a, b, h, k⟩
      have := List.append_eq_nil_iff.1 h.symm
      rw [this.2] at k; exact k
  | cons d t ih =>
    rw [star, Bool.or_eq_true, ih]
    constructor
    · rintro (h | ⟨a, b, rfl, k⟩)
      · exact ⟨[], _, rfl, h⟩
      · exact ⟨d :: a, b, rfl, k⟩
    · rintro ⟨a, b, h, k⟩
      cases a with
      | nil => left; rw [List.nil_append] at h; rw [h]; exact k
      | cons x a =>
        right
        rw [List.cons_append] at h
        injection h with h1 h2
        exact ⟨a, b, h2, k⟩
theorem star_up {f : List UInt8 → Bool} {b : List UInt8} (a : List UInt8) (h : star f b = true) : star f (a ++ b) = true := by
  obtain ⟨x, y, rfl, k⟩ := (star_iff _ _).1 h
  exact (star_iff _ _).2 ⟨a ++ x, y, by rw [List.append_assoc], k⟩
theorem star_here {f : List UInt8 → Bool} {b : List UInt8} (h : f b = true) : star f b = true := (star_iff _ _).2 ⟨[], b, rfl, h⟩
theorem gm_end (r : List UInt8) : gm r [] = r.all (· == 42) := by
  induction r with
  | nil => rfl
  | cons c r ih =>
    by_cases h : c = 42
    · subst h; rw [gm_star, star, ih]; rfl
    · rw [gm_cons_nil h, List.all_cons]; simp [h]
/-- A piece without stars, and what it matches, byte by byte. -/
def mt : List UInt8 → List UInt8 → Prop
  | [], [] => True
  | c :: p, d :: t => c ≠ 42 ∧ (c = 63 ∨ c = d) ∧ mt p t
  | _, _ => False
theorem mt_gm {g t : List UInt8} (h : mt g t) (r u : List UInt8) : gm (g ++ r) (t ++ u) = gm r u := by
  induction g generalizing t with
  | nil => cases t with
    | nil => rfl
    | cons => exact h.elim
  | cons c p ih => cases t with
    | nil => exact h.elim
    | cons d t =>
      obtain ⟨h1, h2, h3⟩ := h
      rw [List.cons_append, List.cons_append, gm_cons h1, ih h3]
      rcases h2 with h2 | h2 <;> simp [h2]
theorem mt_snoc {g t : List UInt8} (h : mt g t) {c d : UInt8} (h1 : c ≠ 42) (h2 : c = 63 ∨ c = d) : mt (g ++ [c]) (t ++ [d]) := by
  induction g generalizing t with
  | nil => cases t with
    | nil => exact ⟨h1, h2, trivial⟩
    | cons => exact h.elim
  | cons c p ih => cases t with
    | nil => exact h.elim
    | cons d t => exact ⟨h.1, h.2.1, ih h.2.2⟩
theorem mt_len {g t : List UInt8} (h : mt g t) : g.length = t.length := by
  induction g generalizing t with
  | nil => cases t with
    | nil => rfl
    | cons => exact h.elim
  | cons c p ih => cases t with
    | nil => exact h.elim
    | cons d t => simp [ih h.2.2]
theorem mt_free {g t : List UInt8} (h : mt g t) : ∀ c ∈ g, c ≠ 42 := by
  induction g generalizing t with
  | nil => intro c hc; cases hc
  | cons c p ih => cases t with
    | nil => exact h.elim
    | cons d t =>
      intro x hx
      rcases List.mem_cons.1 hx with rfl | hx
      · exact h.1
      · exact ih h.2.2 x hx
theorem gm_free {g : List UInt8} (hg : ∀ c ∈ g, c ≠ 42) (r s : List UInt8) (h : gm (g ++ r) s = true) : ∃ t u, s = t ++ u ∧ t.length = g.length ∧ mt g t ∧ gm r u = true := by
  induction g generalizing s with
  | nil => exact ⟨[], s, rfl, rfl, trivial, h⟩
  | cons c p ih =>
    have hc := hg c (by simp)
    cases s with
    | nil => rw [List.cons_append, gm_cons_nil hc] at h; cases h
    | cons d t =>
      rw [List.cons_append, gm_cons hc, Bool.and_eq_true] at h
      obtain ⟨t1, u, rfl, hl, hm, hr⟩ := ih (fun x hx => hg x (by simp [hx])) t h.2
      exact ⟨d :: t1, u, rfl, by simp [hl], ⟨hc, by simpa using h.1, hm⟩, hr⟩
theorem mt_star {g t : List UInt8} (h : mt g t) (r u : List UInt8) : star (gm (g ++ 42 :: r)) (t ++ u) = star (gm r) u := by
  rw [Bool.eq_iff_iff]
  constructor
  · intro hs
    obtain ⟨a, b, e, k⟩ := (star_iff _ _).1 hs
    obtain ⟨t1, u1, rfl, hl, _, hr⟩ := gm_free (mt_free h) _ _ k
    rw [gm_star] at hr
    have hlen : t.length ≤ (a ++ t1).length := by rw [← mt_len h, List.length_append]; omega
    have e2 : t ++ u = (a ++ t1) ++ u1 := by rw [e, List.append_assoc]
    obtain ⟨z, hz⟩ := List.prefix_of_prefix_length_le (List.prefix_append t u) (e2 ▸ List.prefix_append (a ++ t1) u1) hlen
    rw [← hz, List.append_assoc] at e2
    rw [List.append_cancel_left e2]
    exact star_up z hr
  · intro hs
    refine star_here ?_
    rw [mt_gm h, gm_star]
    exact hs
theorem mt_done {g t : List UInt8} (h : mt g t) (r : List UInt8) : star (gm (g ++ r)) t = gm r [] := by
  rw [Bool.eq_iff_iff]
  constructor
  · intro hs
    obtain ⟨a, b, e, k⟩ := (star_iff _ _).1 hs
    obtain ⟨t1, u1, rfl, hl, _, hr⟩ := gm_free (mt_free h) _ _ k
    have := congrArg List.length e
    simp only [List.length_append, ← mt_len h] at this
    have hu : u1 = [] := List.length_eq_zero_iff.1 (by omega)
    rw [hu] at hr; exact hr
  · intro hs
    refine star_here ?_
    have := mt_gm h r []
    rw [List.append_nil] at this
    rw [this]; exact hs

/-- What the search keeps: pattern at p, text at i, the last star at q tried from byte k. -/
def GI (P S : List UInt8) (p i : Nat) (q : Int) (k : Nat) : Prop :=
  p ≤ P.length ∧ i ≤ S.length ∧ k ≤ i ∧
  ((q = -1 ∧ gm P S = gm (P.drop p) (S.drop i)) ∨
   ∃ a : Nat, q = a ∧ a < p ∧ ∃ g t, mt g t ∧ P.drop (a + 1) = g ++ P.drop p ∧ S.drop k = t ++ S.drop i ∧ gm P S = star (gm (P.drop (a + 1))) (S.drop k))
theorem GI_start (P S : List UInt8) : GI P S 0 0 (-1) 0 := ⟨Nat.zero_le _, Nat.zero_le _, Nat.le_refl _, .inl ⟨rfl, rfl⟩⟩
theorem GI_star {P S : List UInt8} {p i k : Nat} {q : Int} (h : GI P S p i q k) (hp : p < P.length) (hc : P[p] = 42) : GI P S (p + 1) i p i := by
  obtain ⟨h1, h2, h3, h4⟩ := h
  refine ⟨by omega, h2, Nat.le_refl _, .inr ⟨p, rfl, by omega, [], [], trivial, rfl, rfl, ?_⟩⟩
  have hd : P.drop p = 42 :: P.drop (p + 1) := by rw [List.drop_eq_getElem_cons hp, hc]
  rcases h4 with ⟨_, h⟩ | ⟨a, _, _, g, t, hm, e1, e2, h⟩
  · rw [h, hd, gm_star]
  · rw [h, e1, e2, hd, mt_star hm]
theorem GI_match {P S : List UInt8} {p i k : Nat} {q : Int} (h : GI P S p i q k) (hp : p < P.length) (hi : i < S.length) (hc : P[p] ≠ 42) (hm : P[p] = 63 ∨ P[p] = S[i]) : GI P S (p + 1) (i + 1) q k := by
  obtain ⟨h1, h2, h3, h4⟩ := h
  refine ⟨by omega, by omega, by omega, ?_⟩
  have hd : P.drop p = P[p] :: P.drop (p + 1) := List.drop_eq_getElem_cons hp
  have hs : S.drop i = S[i] :: S.drop (i + 1) := List.drop_eq_getElem_cons hi
  rcases h4 with ⟨hq, h⟩ | ⟨a, hq, ha, g, t, hmt, e1, e2, h⟩
  · refine .inl ⟨hq, ?_⟩
    rw [h, hd, hs, gm_cons hc]
    rcases hm with hm | hm <;> simp [hm]
  · refine .inr ⟨a, hq, by omega, g ++ [P[p]], t ++ [S[i]], mt_snoc hmt hc hm, ?_, ?_, h⟩
    · rw [e1, hd, List.append_assoc]; rfl
    · rw [e2, hs, List.append_assoc]; rfl
theorem gm_stuck {P S : List UInt8} {p i : Nat} (hi : i < S.length) (hx : ∀ hp : p < P.length, P[p] ≠ 42 ∧ P[p] ≠ 63 ∧ P[p] ≠ S[i]) : gm (P.drop p) (S.drop i) = false := by
  have hs : S.drop i = S[i] :: S.drop (i + 1) := List.drop_eq_getElem_cons hi
  by_cases hp : p < P.length
  · have hd : P.drop p = P[p] :: P.drop (p + 1) := List.drop_eq_getElem_cons hp
    rw [hd, hs, gm_cons (hx hp).1]
    simp [(hx hp).2.1, (hx hp).2.2]
  · rw [List.drop_eq_nil_of_le (by omega), hs, gm_nil]; rfl
theorem GI_fail {P S : List UInt8} {p i k : Nat} (h : GI P S p i (-1) k) (hi : i < S.length) (hx : ∀ hp : p < P.length, P[p] ≠ 42 ∧ P[p] ≠ 63 ∧ P[p] ≠ S[i]) : gm P S = false := by
  obtain ⟨h1, h2, h3, h4⟩ := h
  rcases h4 with ⟨_, h⟩ | ⟨a, hq, _⟩
  · rw [h, gm_stuck hi hx]
  · omega
theorem GI_back {P S : List UInt8} {p i k a : Nat} (h : GI P S p i (a : Int) k) (hi : i < S.length) (hx : ∀ hp : p < P.length, P[p] ≠ 42 ∧ P[p] ≠ 63 ∧ P[p] ≠ S[i]) : GI P S (a + 1) (k + 1) a (k + 1) := by
  obtain ⟨h1, h2, h3, h4⟩ := h
  rcases h4 with ⟨hq, _⟩ | ⟨b, hq, ha, g, t, hm, e1, e2, h⟩
  · omega
  · have hb : b = a := by omega
    subst hb
    refine ⟨by omega, by omega, Nat.le_refl _, .inr ⟨b, rfl, by omega, [], [], trivial, rfl, rfl, ?_⟩⟩
    have hk : S.drop k = S[k]'(by omega) :: S.drop (k + 1) := List.drop_eq_getElem_cons (by omega)
    have hno : gm (P.drop (b + 1)) (S.drop k) = false := by rw [e1, e2, mt_gm hm, gm_stuck hi hx]
    rw [h, hk, star, ← hk, hno, Bool.false_or]
theorem GI_end {P S : List UInt8} {p i k : Nat} {q : Int} (h : GI P S p i q k) (hi : S.length ≤ i) : gm P S = (P.drop p).all (· == 42) := by
  obtain ⟨h1, h2, h3, h4⟩ := h
  have hs : S.drop i = [] := List.drop_eq_nil_of_le hi
  rcases h4 with ⟨_, h⟩ | ⟨a, _, _, g, t, hm, e1, e2, h⟩
  · rw [h, hs, gm_end]
  · rw [hs, List.append_nil] at e2
    rw [h, e1, e2, mt_done hm, gm_end]
theorem GI_p {P S : List UInt8} {p i k : Nat} {q : Int} (h : GI P S p i q k) : p ≤ P.length := h.1
theorem GI_i {P S : List UInt8} {p i k : Nat} {q : Int} (h : GI P S p i q k) : i ≤ S.length := h.2.1
theorem GI_k {P S : List UInt8} {p i k : Nat} {q : Int} (h : GI P S p i q k) : k ≤ i := h.2.2.1
theorem GI_q {P S : List UInt8} {p i k : Nat} {q : Int} (h : GI P S p i q k) : -1 ≤ q ∧ q < p := by
  rcases h.2.2.2 with ⟨h, _⟩ | ⟨a, h, k, _⟩ <;> omega
theorem dw_all (f : UInt8 → Bool) (l : List UInt8) : (l.dropWhile f).all f = l.all f := by
  induction l with
  | nil => rfl
  | cons c l ih => cases h : f c <;> simp [h, ih]
theorem dw_nil (f : UInt8 → Bool) (l : List UInt8) : l.dropWhile f = [] ↔ l.all f = true := by
  induction l with
  | nil => simp
  | cons c l ih => cases h : f c <;> simp [h, ih]
/-- What is cut off at both ends is all of it where it is stars alone. -/
theorem trim_nil (r : List UInt8) : Lib.trimB r 42 = [] ↔ r.all (· == 42) = true := by
  unfold Lib.trimB Lib.trimLeftB Lib.trimRightB
  rw [dw_nil, List.all_reverse, dw_all, List.all_reverse]
theorem trim_all {r : List UInt8} {b : Bool} (h : r.all (· == 42) = b) : ((⟨(Lib.trimB r 42).toArray⟩ : ByteArray).toList == []) = b := by
  rw [Lib.toList_data]
  show (Lib.trimB r 42 == []) = b
  rw [← h, Bool.eq_iff_iff, beq_iff_eq, trim_nil]
end Go.Proofs.YtideieolgjhbiaaGreatDoor
