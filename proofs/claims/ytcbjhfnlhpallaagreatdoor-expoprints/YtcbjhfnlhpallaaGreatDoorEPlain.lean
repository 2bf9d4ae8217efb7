/- Scraped text in plain words: words of a line, lines of a body, what a remark tells of a metric. -/
import Derived.Test.YtcbjhfnlhpallaaGreatDoorBaseA
namespace Go.Proofs.YtcbjhfnlhpallaaGreatDoor

/-! ### Parted at each sign -/
def spG (c : UInt8) (cur : Str) : Str → List Str
  | [] => [cur]
  | x :: r => if x = c then cur :: spG c [] r else spG c (cur ++ [x]) r
def sp (c : UInt8) (s : Str) : List Str := spG c [] s
theorem spG_nil (c : UInt8) (cur : Str) : spG c cur [] = [cur] := rfl
theorem spG_hit (c : UInt8) (cur r : Str) : spG c cur (c :: r) = cur :: spG c [] r := by simp [spG]
theorem spG_miss {c x : UInt8} (h : x ≠ c) (cur r : Str) : spG c cur (x :: r) = spG c (cur ++ [x]) r := by simp [spG, h]
theorem spG_part (c : UInt8) : ∀ (a cur r : Str), c ∉ a → spG c cur (a ++ r) = spG c (cur ++ a) r
  | [], cur, r, _ => by simp
  | x :: a, cur, r, h => by
    have hx : x ≠ c := fun e => h (by simp [e])
    rw [List.cons_append, spG_miss hx, spG_part c a _ _ (fun hm => h (by simp [hm]))]
    simp
theorem spG_none {c : UInt8} {a : Str} (cur : Str) (h : c ∉ a) : spG c cur a = [cur ++ a] := by
  have := spG_part c a cur [] h
  rw [List.append_nil] at this
  rw [this]
  rfl
theorem spG_at {c : UInt8} {a : Str} (cur r : Str) (h : c ∉ a) : spG c cur (a ++ c :: r) = (cur ++ a) :: sp c r := by
  rw [spG_part c a cur _ h, spG_hit]
  rfl
theorem sp_none {c : UInt8} {a : Str} (h : c ∉ a) : sp c a = [a] := spG_none [] h
theorem sp_at {c : UInt8} {a : Str} (r : Str) (h : c ∉ a) : sp c (a ++ c :: r) = a :: sp c r := spG_at [] r h
theorem spG_len (c : UInt8) : ∀ (s cur : Str), (spG c cur s).length ≤ s.length + 1
  | [], cur => by simp [spG]
  | x :: r, cur => by
    unfold spG
    split
    · have := spG_len c r []
      simp; omega
    · have := spG_len c r (cur ++ [x])
      simp; omega
theorem sp_len (c : UInt8) (s : Str) : (sp c s).length ≤ s.length + 1 := spG_len c s []
theorem spG_ne (c : UInt8) : ∀ (s cur : Str), spG c cur s ≠ []
  | [], cur => by simp [spG]
  | x :: r, cur => by
    unfold spG
    split
    · simp
    · exact spG_ne c r _
theorem spG_sub (c : UInt8) : ∀ (s cur : Str), ∀ a ∈ spG c cur s, a.length ≤ cur.length + s.length
  | [], cur, a, h => by simp [spG] at h; subst h; simp
  | x :: r, cur, a, h => by
    unfold spG at h
    split at h
    · rcases List.mem_cons.1 h with rfl | h
      · simp
      · have := spG_sub c r [] a h
        simp at this ⊢; omega
    · have := spG_sub c r _ a h
      simp at this ⊢; omega
theorem sp_sub {c : UInt8} {s a : Str} (h : a ∈ sp c s) : a.length ≤ s.length := by simpa using spG_sub c s [] a h
/-- What is parted, put together again. -/
def glue (c : UInt8) : List Str → Str
  | [] => []
  | [a] => a
  | a :: b :: r => a ++ c :: glue c (b :: r)
theorem glue_cons (c : UInt8) (a : Str) {l : List Str} (h : l ≠ []) : glue c (a :: l) = a ++ c :: glue c l := by
  cases l with
  | nil => exact absurd rfl h
  | cons b r => rfl
theorem glue_spG (c : UInt8) : ∀ (s cur : Str), glue c (spG c cur s) = cur ++ s
  | [], cur => by simp [spG, glue]
  | x :: r, cur => by
    unfold spG
    split
    · rename_i h
      rw [glue_cons c _ (spG_ne c r []), glue_spG c r []]
      simp [h]
    · rw [glue_spG c r]
      simp
theorem glue_sp (c : UInt8) (s : Str) : glue c (sp c s) = s := by show glue c (spG c [] s) = s; simpa using glue_spG c s []

/-- The library's Split at one sign. -/
theorem index_hit {c : UInt8} {a : Str} (r : Str) (h : c ∉ a) : Lib.index (a ++ c :: r) [c] = a.length := by
  induction a with
  | nil => rw [List.nil_append, index_one_cons]; simp
  | cons x a ih =>
    have hx : x ≠ c := fun e => h (by simp [e])
    have := ih (fun hm => h (by simp [hm]))
    rw [List.cons_append, index_one_cons, if_neg hx, this, if_neg (by omega)]
    simp
theorem index_miss {c : UInt8} {a : Str} (h : c ∉ a) : Lib.index a [c] = -1 := by
  induction a with
  | nil => simp [Lib.index]
  | cons x a ih =>
    have hx : x ≠ c := fun e => h (by simp [e])
    rw [index_one_cons, if_neg hx, ih (fun hm => h (by simp [hm]))]
    simp
theorem cut_at {c : UInt8} {s : Str} (h : c ∈ s) : ∃ a r, c ∉ a ∧ s = a ++ c :: r := by
  induction s with
  | nil => cases h
  | cons x s ih =>
    by_cases e : x = c
    · exact ⟨[], s, by simp, by simp [e]⟩
    · obtain ⟨a, r, ha, rfl⟩ := ih (by rcases List.mem_cons.1 h with h | h; exact absurd h.symm e; exact h)
      exact ⟨x :: a, r, by simp [ha, Ne.symm e], rfl⟩
theorem split_sp (c : UInt8) : ∀ (k : Nat) (s : Str), Lib.count s [c] = k → Lib.splitK [c] 0 k s = sp c s
  | 0, s, hk => by
    have hn : c ∉ s := by
      rw [Lib.count_one] at hk
      exact List.count_eq_zero.1 hk
    rw [sp_none hn]
    rfl
  | k + 1, s, hk => by
    rw [Lib.count_one] at hk
    have hm : c ∈ s := by
      rw [← List.count_pos_iff]; omega
    obtain ⟨a, r, ha, rfl⟩ := cut_at hm
    have hix := index_hit r ha
    rw [Lib.splitK, hix, if_neg (by simp), sp_at r ha]
    have e1 : (a ++ c :: r).take (((a.length : Nat) : Int).toNat + 0) = a := by simp
    have e2 : (a ++ c :: r).drop (((a.length : Nat) : Int).toNat + [c].length) = r := by
      rw [Int.toNat_natCast, List.drop_append]
      simp
    rw [e1, e2, split_sp c k r (by
      rw [Lib.count_one]
      rw [List.count_append, List.count_cons_self, List.count_eq_zero.2 ha] at hk
      omega)]

/-! ### Words -/
def wdG : Bool → Str → Str → List Str
  | _, cur, [] => [cur]
  | q, cur, c :: r =>
    if q = true ∧ c = 92 then
      match r with
      | [] => [cur ++ [c]]
      | d :: r' => wdG q (cur ++ [c, d]) r'
    else if c = 34 then wdG (!q) (cur ++ [c]) r
    else if c = 32 ∧ q = false then cur :: wdG q [] r
    else wdG q (cur ++ [c]) r
def wd (s : Str) : List Str := wdG false [] s
theorem wdG_nil (q : Bool) (cur : Str) : wdG q cur [] = [cur] := by unfold wdG; rfl
theorem wdG_last (cur : Str) : wdG true cur [92] = [cur ++ [92]] := by unfold wdG; simp
theorem wdG_esc (cur : Str) (d : UInt8) (r : Str) : wdG true cur (92 :: d :: r) = wdG true (cur ++ [92, d]) r := by rw [wdG.eq_def]; simp
theorem wdG_quote (q : Bool) (cur r : Str) : wdG q cur (34 :: r) = wdG (!q) (cur ++ [34]) r := by rw [wdG.eq_def]; simp
theorem wdG_blank (cur r : Str) : wdG false cur (32 :: r) = cur :: wdG false [] r := by rw [wdG.eq_def]; simp
theorem wdG_other {q : Bool} {c : UInt8} (h1 : ¬ (q = true ∧ c = 92)) (h2 : c ≠ 34) (h3 : ¬ (c = 32 ∧ q = false)) (cur r : Str) : wdG q cur (c :: r) = wdG q (cur ++ [c]) r := by
  rw [wdG.eq_def]; simp only [h1, h2, h3, if_false]
theorem wdG_ne : ∀ (n : Nat) (s : Str), s.length ≤ n → ∀ (q : Bool) (cur : Str), wdG q cur s ≠ []
  | _, [], _, q, cur => by rw [wdG_nil]; simp
  | 0, c :: r, h, q, cur => by simp at h
  | n + 1, c :: r, h, q, cur => by
    simp at h
    by_cases h1 : q = true ∧ c = 92
    · obtain ⟨rfl, rfl⟩ := h1
      cases r with
      | nil => rw [wdG_last]; simp
      | cons d r => rw [wdG_esc]; simp at h; exact wdG_ne n r (by omega) _ _
    · by_cases h2 : c = 34
      · subst h2; rw [wdG_quote]; exact wdG_ne n r h _ _
      · by_cases h3 : c = 32 ∧ q = false
        · obtain ⟨rfl, rfl⟩ := h3; rw [wdG_blank]; simp
        · rw [wdG_other h1 h2 h3]; exact wdG_ne n r h _ _
theorem glue_wdG : ∀ (n : Nat) (s : Str), s.length ≤ n → ∀ (q : Bool) (cur : Str), glue 32 (wdG q cur s) = cur ++ s
  | _, [], _, q, cur => by rw [wdG_nil]; simp [glue]
  | 0, c :: r, h, q, cur => by simp at h
  | n + 1, c :: r, h, q, cur => by
    simp at h
    by_cases h1 : q = true ∧ c = 92
    · obtain ⟨rfl, rfl⟩ := h1
      cases r with
      | nil => rw [wdG_last]; simp [glue]
      | cons d r => rw [wdG_esc]; simp at h; rw [glue_wdG n r (by omega)]; simp
    · by_cases h2 : c = 34
      · subst h2; rw [wdG_quote, glue_wdG n r h]; simp
      · by_cases h3 : c = 32 ∧ q = false
        · obtain ⟨rfl, rfl⟩ := h3; rw [wdG_blank, glue_cons 32 _ (wdG_ne n r h _ _), glue_wdG n r h]; simp
        · rw [wdG_other h1 h2 h3, glue_wdG n r h]; simp
theorem glue_wd (s : Str) : glue 32 (wd s) = s := by show glue 32 (wdG false [] s) = s; simpa using glue_wdG _ s (Nat.le_refl _) false []
theorem wdG_len : ∀ (n : Nat) (s : Str), s.length ≤ n → ∀ (q : Bool) (cur : Str), (wdG q cur s).length ≤ s.length + 1
  | _, [], _, q, cur => by rw [wdG_nil]; simp
  | 0, c :: r, h, q, cur => by simp at h
  | n + 1, c :: r, h, q, cur => by
    simp at h
    by_cases h1 : q = true ∧ c = 92
    · obtain ⟨rfl, rfl⟩ := h1
      cases r with
      | nil => rw [wdG_last]; simp
      | cons d r => rw [wdG_esc]; simp at h; have := wdG_len n r (by omega) true (cur ++ [92, d]); simp; omega
    · by_cases h2 : c = 34
      · subst h2; rw [wdG_quote]; have := wdG_len n r h (!q) (cur ++ [34]); simp; omega
      · by_cases h3 : c = 32 ∧ q = false
        · obtain ⟨rfl, rfl⟩ := h3; rw [wdG_blank]; have := wdG_len n r h false []; simp; omega
        · rw [wdG_other h1 h2 h3]; have := wdG_len n r h q (cur ++ [c]); simp; omega
theorem wd_len (s : Str) : (wd s).length ≤ s.length + 1 := wdG_len _ s (Nat.le_refl _) false []
theorem glue_sub (c : UInt8) : ∀ (l : List Str) (a : Str), a ∈ l → a.length ≤ (glue c l).length
  | [], a, h => by cases h
  | [b], a, h => by simp at h; subst h; simp [glue]
  | b :: d :: r, a, h => by
    rw [glue_cons c b (by simp)]
    rcases List.mem_cons.1 h with rfl | h
    · simp
    · have := glue_sub c (d :: r) a h
      simp; omega
theorem wd_sub {s a : Str} (h : a ∈ wd s) : a.length ≤ s.length := by
  have := glue_sub 32 _ a h
  rwa [glue_wd] at this
/-- Without a quote words are what stands between blanks. -/
theorem wdG_plain : ∀ (s cur : Str), 34 ∉ s → wdG false cur s = spG 32 cur s
  | [], cur, _ => by rw [wdG_nil, spG_nil]
  | c :: r, cur, h => by
    have hc : c ≠ 34 := fun e => h (by simp [e])
    have hr : 34 ∉ r := fun hm => h (by simp [hm])
    by_cases e : c = 32
    · subst e; rw [wdG_blank, spG_hit, wdG_plain r [] hr]
    · rw [wdG_other (by simp) hc (by simp [e]), spG_miss e, wdG_plain r _ hr]
theorem wd_plain {s : Str} (h : 34 ∉ s) : wd s = sp 32 s := wdG_plain s [] h

/-! ### A metric's kind -/
def kwd (k : Int) : Str := if k = 0 then [117, 110, 116, 121, 112, 101, 100] else if k = 1 then [99, 111, 117, 110, 116, 101, 114] else if k = 2 then [103, 97, 117, 103, 101] else []
def kOf (s : Str) : Option Int := if s = kwd 0 then some 0 else if s = kwd 1 then some 1 else if s = kwd 2 then some 2 else none
def tWord : Str := [84, 89, 80, 69]
/-- What four words tell. -/
def note4 : List Str → Option (Str × Int)
  | [a, b, n, k] => if a = [35] ∧ b = tWord ∧ fName n = true then (kOf k).map fun x => (n, x) else none
  | _ => none
def fNote (s : Str) : Option (Str × Int) := note4 (sp 32 s)
theorem note4_some {l : List Str} {n : Str} {x : Int} (h : note4 l = some (n, x)) : l = [[35], tWord, n, kwd x] ∧ fName n = true ∧ (x = 0 ∨ x = 1 ∨ x = 2) := by
  match l, h with
  | [a, b, m, k], h =>
    replace h : (if a = [35] ∧ b = tWord ∧ fName m = true then (kOf k).map fun x => (m, x) else none) = some (n, x) := h
    by_cases hc : a = [35] ∧ b = tWord ∧ fName m = true
    · rw [if_pos hc] at h
      obtain ⟨rfl, rfl, hn⟩ := hc
      unfold kOf at h
      split at h
      · simp at h; obtain ⟨rfl, rfl⟩ := h; simp [*]
      · split at h
        · simp at h; obtain ⟨rfl, rfl⟩ := h; simp [*]
        · split at h
          · simp at h; obtain ⟨rfl, rfl⟩ := h; simp [*]
          · simp at h
    · rw [if_neg hc] at h
      cases h
  | [], h => cases h
  | [_], h => cases h
  | [_, _], h => cases h
  | [_, _, _], h => cases h
  | _ :: _ :: _ :: _ :: _ :: _, h => cases h
theorem kwd_no34 (x : Int) : 34 ∉ kwd x := by
  unfold kwd
  split
  · decide
  · split
    · decide
    · split <;> decide
theorem name_no34 {n : Str} (h : fName n = true) : 34 ∉ n := fun hm => by
  have := name_no h 34 hm
  revert this; decide
theorem note_no34 {l : List Str} {n : Str} {x : Int} (h : note4 l = some (n, x)) : 34 ∉ glue 32 l := by
  obtain ⟨rfl, hn, _⟩ := note4_some h
  have h1 := kwd_no34 x
  have h2 := name_no34 hn
  simp [glue, tWord, h1, h2]
/-- Words in quotes or not: a remark that tells a kind has none. -/
theorem note_wd (s : Str) : note4 (wd s) = fNote s := by
  unfold fNote
  by_cases h : 34 ∈ s
  · have h1 : note4 (wd s) = none := by
      cases e : note4 (wd s) with
      | none => rfl
      | some p => have := note_no34 (n := p.1) (x := p.2) e; rw [glue_wd] at this; exact absurd h this
    have h2 : note4 (sp 32 s) = none := by
      cases e : note4 (sp 32 s) with
      | none => rfl
      | some p => have := note_no34 (n := p.1) (x := p.2) e; rw [glue_sp] at this; exact absurd h this
    rw [h1, h2]
  · rw [wd_plain h]
end Go.Proofs.YtcbjhfnlhpallaaGreatDoor
