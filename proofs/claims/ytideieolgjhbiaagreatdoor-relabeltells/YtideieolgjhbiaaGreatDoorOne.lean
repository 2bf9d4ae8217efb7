/- Matchers: One, Is: each for every argument. -/
import Derived.Test.YtideieolgjhbiaaGreatDoorGlob
import Derived.Test.YtideieolgjhbiaaGreatDoorIs
namespace Go.Proofs.YtideieolgjhbiaaGreatDoor
open Go.RowKit

/-- A matcher: name, kind, text. -/
structure Mat where
  name : Str
  kind : Int
  text : Str
abbrev av (m : Mat) : Value := .agg #[tx m.name, .int .i64 m.kind, tx m.text]
def hasB (p s : Str) : Bool := p.isPrefixOf s
/-- Does the value match? -/
def fOne (m : Mat) (v : Str) : Bool :=
  if m.kind = 1 then v == m.text else if m.kind = 2 then !(v == m.text) else if m.kind = 3 then hasB m.text v else if m.kind = 4 then gm m.text v else false
def Big (s : Str) : Prop := s.length ≤ 9223372036854775807
theorem hasPrefix_any (s p : Str) (w : World) : Calls Tryz.prog 88 #[tx s, tx p] w fun e w' => e = .returned (.bool (hasB p s)) ∧ w = w' := by
  refine (Tryz.strings_HasPrefix ⟨s.toArray⟩ ⟨p.toArray⟩ w).mono ?_
  rintro e w' ⟨rfl, rfl⟩
  exact ⟨rfl, rfl⟩

set_option maxHeartbeats 1000000 in
theorem one_any (m : Mat) (v : Str) (w : World) (hv : Big v) (hm : Big m.text) :
    Calls Tryz.prog 70 #[av m, tx v] w fun e w' => e = .returned (.bool (fOne m v)) ∧ Below w.heap.size w w' := by
  have hpre := hasPrefix_any v m.text
  have hglob := fun W => glob_any m.text v W hm hv
  unfold fOne
  obtain ⟨n, k, t⟩ := m
  dsimp only at *
  have hb0 : ∀ o, Below w.heap.size w (w.alloc o) := bal (Below.refl _ _)
  by_cases h1 : k = 1
  · subst h1
    cases he : v == t <;> (
      go_enter Tryz.func70, Tryz.ntmps70
      go_wp2_with fail
      go_ret
      exact ⟨by simp, hb0 _⟩)
  · have t1 : (k == 1) = false := by simpa using h1
    by_cases h2 : k = 2
    · subst h2
      cases he : v == t with
      | true =>
        have he' : (v != t) = false := by rw [bne, he]; rfl
        go_enter Tryz.func70, Tryz.ntmps70
        go_wp2_with fail
        go_ret
        exact ⟨by simp, hb0 _⟩
      | false =>
        have he' : (v != t) = true := by rw [bne, he]; rfl
        go_enter Tryz.func70, Tryz.ntmps70
        go_wp2_with fail
        go_ret
        exact ⟨by simp, hb0 _⟩
    · have t2 : (k == 2) = false := by simpa using h2
      by_cases h3 : k = 3
      · subst h3
        generalize hasB t v = r at *
        go_enter Tryz.func70, Tryz.ntmps70
        go_wp2_with fail
        refine (hpre _).mono ?_
        rintro e w1 ⟨rfl, rfl⟩
        go_wp2_with fail
        go_ret
        exact ⟨by simp, hb0 _⟩
      · have t3 : (k == 3) = false := by simpa using h3
        by_cases h4 : k = 4
        · subst h4
          generalize gm t v = r at *
          go_enter Tryz.func70, Tryz.ntmps70
          go_wp2_with fail
          refine (hglob _).mono ?_
          rintro e w1 ⟨rfl, hb1⟩
          go_wp2_with fail
          go_ret
          exact ⟨by simp, Below.chain (hb0 _) hb1⟩
        · have t4 : (k == 4) = false := by simpa using h4
          go_enter Tryz.func70, Tryz.ntmps70
          go_wp2_with fail
          go_ret
          exact ⟨by simp, hb0 _⟩

/-! ### Is -/
def fKind (k : Int) : Bool := decide (1 ≤ k) && decide (k ≤ 4)
def fMat (m : Mat) : Bool := fName m.name && fKind m.kind && decide (m.text.length ≤ 30) && !m.text.contains 10
theorem isKind_any (k : Int) (w : World) : Calls Tryz.prog 62 #[.int .i64 k] w fun e w' => e = .returned (.bool (fKind k)) ∧ w = w' := by
  unfold fKind
  go_enter Tryz.func62, Tryz.ntmps62
  go_wp2
  all_goals
    go_ret
    exact ⟨ret_bool (by rw [Bool.eq_iff_iff]; simp; omega), rfl⟩
set_option maxHeartbeats 1000000 in
theorem isM_any (m : Mat) (w : World) (hn : Big m.name) :
    Calls Tryz.prog 43 #[av m] w fun e w' => e = .returned (.bool (fMat m)) ∧ Below w.heap.size w w' := by
  have hnm := fun W => name_any m.name W (by unfold Big at hn; omega)
  have hkd := isKind_any m.kind
  have hct := contains_any m.text
  have hb0 : ∀ o, Below w.heap.size w (w.alloc o) := bal (Below.refl _ _)
  unfold fMat
  obtain ⟨n, k, t⟩ := m
  dsimp only at *
  clear hn
  generalize fName n = a at *
  generalize fKind k = b at *
  generalize t.contains 10 = c at *
  cases a with
  | false =>
    go_enter Tryz.func43, Tryz.ntmps43
    go_wp2_with (go_at_call 35; refine (hnm _).mono ?_; rintro e w' ⟨rfl, rfl⟩)
    go_ret
    exact ⟨by simp, hb0 _⟩
  | true =>
    cases b with
    | false =>
      go_enter Tryz.func43, Tryz.ntmps43
      go_wp2_with (first | (go_at_call 35; refine (hnm _).mono ?_; rintro e w' ⟨rfl, rfl⟩) | (go_at_call 62; refine (hkd _).mono ?_; rintro e w' ⟨rfl, rfl⟩))
      go_ret
      exact ⟨by simp, hb0 _⟩
    | true =>
      by_cases hl : t.length ≤ 30
      · have hl' : (t.length : Int) ≤ 30 := by omega
        cases c <;> (
          go_enter Tryz.func43, Tryz.ntmps43
          go_wp2_with (first | (go_at_call 35; refine (hnm _).mono ?_; rintro e w' ⟨rfl, rfl⟩) | (go_at_call 62; refine (hkd _).mono ?_; rintro e w' ⟨rfl, rfl⟩) | (go_at_call 50; refine (hct _).mono ?_; rintro e w' ⟨rfl, rfl⟩))
          go_ret
          exact ⟨by simp [hl], hb0 _⟩)
      · have hl' : ¬ (t.length : Int) ≤ 30 := by omega
        go_enter Tryz.func43, Tryz.ntmps43
        go_wp2_with (first | (go_at_call 35; refine (hnm _).mono ?_; rintro e w' ⟨rfl, rfl⟩) | (go_at_call 62; refine (hkd _).mono ?_; rintro e w' ⟨rfl, rfl⟩))
        go_ret
        exact ⟨by simp, hb0 _⟩
end Go.Proofs.YtideieolgjhbiaaGreatDoor
