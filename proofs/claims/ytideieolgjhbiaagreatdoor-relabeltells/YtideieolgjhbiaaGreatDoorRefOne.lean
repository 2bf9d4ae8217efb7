/- The reference's One, IsMatcher: as the program's. -/
import Derived.Test.YtideieolgjhbiaaGreatDoorRefGlob2
import Derived.Test.YtideieolgjhbiaaGreatDoorRefB
import Derived.Test.YtideieolgjhbiaaGreatDoorCutsR
namespace Go.Proofs.YtideieolgjhbiaaGreatDoor
open Go.RowKit

theorem hasB_cut (p s : Str) : hasB p s = (decide (p.length ≤ s.length) && (s.take p.length == p)) := by
  have h : hasB p s = begins p s := by
    rw [Bool.eq_iff_iff, begins_iff]
    unfold hasB
    rw [List.isPrefixOf_iff_prefix]
    constructor
    · rintro ⟨u, rfl⟩; exact ⟨u, rfl⟩
    · rintro ⟨u, rfl⟩; exact ⟨u, rfl⟩
  rw [h]; rfl
theorem fMat_r (m : Mat) : fMat m = (fName m.name && decide (1 ≤ m.kind) && decide (m.kind ≤ 4) && rVal m.text) := by
  unfold fMat fKind rVal
  cases fName m.name <;> cases m.text.contains 10 <;> simp [Bool.and_assoc]

set_option maxRecDepth 100000 in
set_option maxHeartbeats 1000000 in
theorem refOne_any (m : Mat) (v : Str) (w : World) (hv : v.length ≤ 140737488351232) (hm : Big m.text) :
    Calls Tryz.prog 23 #[av m, tx v] w fun e w' => e = .returned (.bool (fOne m v)) ∧ Below w.heap.size w w' := by
  have hglob := fun W => refGlob_any m.text v W hm hv
  unfold fOne
  unfold Big at hm
  have hnew := BoxM.new w m
  obtain ⟨n, k, t⟩ := m
  dsimp only at *
  have hb0 : ∀ o, Below w.heap.size w (w.alloc o) := bal (Below.refl _ _)
  by_cases h1 : k = 1
  · subst h1
    cases he : v == t <;> (
      go_enter Tryz.func23, Tryz.ntmps23
      go_wp2_with fail
      go_ret
      exact ⟨by simp, hb0 _⟩)
  · have t1 : (k == 1) = false := by simpa using h1
    by_cases h2 : k = 2
    · subst h2
      cases he : v == t with
      | true =>
        have he' : (v != t) = false := by rw [bne, he]; rfl
        go_enter Tryz.func23, Tryz.ntmps23
        go_wp2_with fail
        go_ret
        exact ⟨by simp, hb0 _⟩
      | false =>
        have he' : (v != t) = true := by rw [bne, he]; rfl
        go_enter Tryz.func23, Tryz.ntmps23
        go_wp2_with fail
        go_ret
        exact ⟨by simp, hb0 _⟩
    · have t2 : (k == 2) = false := by simpa using h2
      by_cases h3 : k = 3
      · subst h3
        rw [hasB_cut]
        by_cases hle : t.length ≤ v.length
        · have hle' : (t.length : Int) ≤ v.length := by omega
          have hx := cut_to v t.length
          rw [decide_eq_true hle]
          generalize hvt : (v.take t.length == t) = r at *
          generalize v.take t.length = vt at *
          have hb1 := hb0 (.cells #[tx n, .int .i64 3, tx t] 33)
          have c2 := hnew.c2
          go_enter Tryz.func23, Tryz.ntmps23
          go_wp2_with fail
          generalize w.alloc (.cells #[.string ⟨n.toArray⟩, .int .i64 3, .string ⟨t.toArray⟩] 33) = w1 at *
          go_quiet (fail)
          go_wp2_with fail
          go_ret
          exact ⟨by simp, below_drewN0 hb1 _⟩
        · have hle' : ¬ (t.length : Int) ≤ v.length := by omega
          rw [decide_eq_false hle]
          have hb1 := hb0 (.cells #[tx n, .int .i64 3, tx t] 33)
          have c2 := hnew.c2
          go_enter Tryz.func23, Tryz.ntmps23
          go_wp2_with fail
          generalize w.alloc (.cells #[.string ⟨n.toArray⟩, .int .i64 3, .string ⟨t.toArray⟩] 33) = w1 at *
          go_quiet (fail)
          go_wp2_with fail
          go_ret
          exact ⟨by simp, below_drewN0 hb1 _⟩
      · have t3 : (k == 3) = false := by simpa using h3
        by_cases h4 : k = 4
        · subst h4
          generalize gm t v = r at *
          go_enter Tryz.func23, Tryz.ntmps23
          go_wp2_with fail
          refine (hglob _).mono ?_
          rintro e w1 ⟨rfl, hb1⟩
          go_wp2_with fail
          go_ret
          exact ⟨by simp, Below.chain (hb0 _) hb1⟩
        · have t4 : (k == 4) = false := by simpa using h4
          go_enter Tryz.func23, Tryz.ntmps23
          go_wp2_with fail
          go_ret
          exact ⟨by simp, hb0 _⟩

set_option maxHeartbeats 1000000 in
theorem refIsM_any (m : Mat) (w : World) (hn : Big m.name) (ht : Big m.text) :
    Calls Tryz.prog 29 #[av m] w fun e w' => e = .returned (.bool (fMat m)) ∧ Below w.heap.size w w' := by
  have hnm := fun W => refName_any m.name W (by unfold Big at hn; omega)
  have hvl := fun W => refValue_any m.text W (by unfold Big at ht; omega)
  have hb0 : ∀ o, Below w.heap.size w (w.alloc o) := bal (Below.refl _ _)
  rw [fMat_r]
  obtain ⟨n, k, t⟩ := m
  dsimp only at *
  clear hn ht
  generalize fName n = a at *
  generalize rVal t = c at *
  cases a with
  | false =>
    go_enter Tryz.func29, Tryz.ntmps29
    go_wp2_with (go_at_call 30; refine (hnm _).mono ?_; rintro e w' ⟨rfl, rfl⟩)
    go_ret
    exact ⟨by simp, hb0 _⟩
  | true =>
    by_cases h1 : 1 ≤ k
    · by_cases h4 : k ≤ 4
      · go_enter Tryz.func29, Tryz.ntmps29
        go_wp2_with (first | (go_at_call 30; refine (hnm _).mono ?_; rintro e w' ⟨rfl, rfl⟩) | (go_at_call 31; refine (hvl _).mono ?_; rintro e w' ⟨rfl, rfl⟩))
        go_ret
        exact ⟨by simp [h1, h4], hb0 _⟩
      · go_enter Tryz.func29, Tryz.ntmps29
        go_wp2_with (first | (go_at_call 30; refine (hnm _).mono ?_; rintro e w' ⟨rfl, rfl⟩) | (go_at_call 31; refine (hvl _).mono ?_; rintro e w' ⟨rfl, rfl⟩))
        go_ret
        exact ⟨by simp; intro h; omega, hb0 _⟩
    · go_enter Tryz.func29, Tryz.ntmps29
      go_wp2_with (first | (go_at_call 30; refine (hnm _).mono ?_; rintro e w' ⟨rfl, rfl⟩) | (go_at_call 31; refine (hvl _).mono ?_; rintro e w' ⟨rfl, rfl⟩))
      go_ret
      exact ⟨by simp; intro h; omega, hb0 _⟩
end Go.Proofs.YtideieolgjhbiaaGreatDoor
