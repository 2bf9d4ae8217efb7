/- Rules: isText, setsNothing, ruleOf, is, Is: each for every rule. -/
import Derived.Test.YtideieolgjhbiaaGreatDoorRPlain
namespace Go.Proofs.YtideieolgjhbiaaGreatDoor
open Go.RowKit

/-- A rule as the callers have it, and as the package has it. -/
abbrev rv (r : Rl) : Value := .agg #[.int .i64 r.act, tx r.frm.name, .int .i64 r.frm.kind, tx r.frm.text, tx r.tgt, tx r.txt]
abbrev qv (r : Rl) : Value := .agg #[tx r.frm.name, .int .i64 r.frm.kind, tx r.frm.text, .int .i64 r.act, tx r.tgt, tx r.txt]
def FitR (r : Rl) : Prop := Big r.frm.name ∧ Big r.frm.text ∧ Big r.tgt ∧ Big r.txt

theorem isText_any (s : Str) (w : World) : Calls Tryz.prog 45 #[tx s] w fun e w' => e = .returned (.bool (fText s)) ∧ w = w' := by
  have hct := contains_any s
  unfold fText
  generalize s.contains 10 = c at *
  by_cases hl : s.length ≤ 30
  · have hl' : (s.length : Int) ≤ 30 := by omega
    cases c <;> (
      go_enter Tryz.func45, Tryz.ntmps45
      go_wp2_with (go_at_call 50; refine (hct _).mono ?_; rintro e w' ⟨rfl, rfl⟩)
      go_ret
      exact ⟨by simp [hl], rfl⟩)
  · have hl' : ¬ (s.length : Int) ≤ 30 := by omega
    go_enter Tryz.func45, Tryz.ntmps45
    go_wp2_with fail
    go_ret
    exact ⟨by simp, rfl⟩

theorem emp_t {s : Str} (h : s = []) : (s == ([] : Str)) = true := by simpa using h
theorem emp_f {s : Str} (h : ¬ s = []) : (s == ([] : Str)) = false := by simpa using h
theorem setsNothing_any (r : Rl) (w : World) : Calls Tryz.prog 44 #[qv r] w fun e w' => e = .returned (.bool (bare r)) ∧ Below w.heap.size w w' := by
  have hb0 : ∀ o, Below w.heap.size w (w.alloc o) := bal (Below.refl _ _)
  unfold bare
  obtain ⟨act, ⟨nn, kk, tt⟩, tgt, txt⟩ := r
  dsimp only at *
  by_cases h1 : tgt = []
  · have t1 := emp_t h1
    by_cases h2 : txt = []
    · have t2 := emp_t h2
      clear h1 h2
      go_enter Tryz.func44, Tryz.ntmps44
      go_wp2_with fail
      go_ret
      exact ⟨by rw [t1, t2]; rfl, hb0 _⟩
    · have t2 := emp_f h2
      clear h1 h2
      go_enter Tryz.func44, Tryz.ntmps44
      go_wp2_with fail
      go_ret
      exact ⟨by rw [t1, t2]; rfl, hb0 _⟩
  · have t1 := emp_f h1
    clear h1
    go_enter Tryz.func44, Tryz.ntmps44
    go_wp2_with fail
    go_ret
    exact ⟨by rw [t1]; rfl, hb0 _⟩

set_option maxHeartbeats 1000000 in
theorem ruleOf_any (r : Rl) (w : World) : Calls Tryz.prog 20 #[rv r] w fun e w' => e = .returned (qv r) ∧ Below w.heap.size w w' := by
  have hb0 : ∀ o o', Below w.heap.size w ((w.alloc o).alloc o') := fun o o' => bal (bal (Below.refl _ _) o) o'
  obtain ⟨act, ⟨nn, kk, tt⟩, tgt, txt⟩ := r
  go_enter Tryz.func20, Tryz.ntmps20
  go_wp2_with fail
  exact bodyPost_ret (results_cell_row (p := 2) (ty := 51) Tryz.results20 _ _ (w.heap.size + 1) 51 _ _ _ rfl (heap_alloc2_new _ _ _) Tryz.underlying51 rfl (by kernel_rfl)) rfl ⟨rfl, hb0 _ _⟩

/-- A rule that lies in a block of its own, as the package has it. -/
structure BoxQ (w : World) (b : Nat) (r : Rl) : Prop where
  c0 : w.cell? ⟨b, 0, none⟩ = some (tx r.frm.name)
  c1 : w.cell? ⟨b, 1, none⟩ = some (.int .i64 r.frm.kind)
  c2 : w.cell? ⟨b, 2, none⟩ = some (tx r.frm.text)
  c3 : w.cell? ⟨b, 3, none⟩ = some (.int .i64 r.act)
  c4 : w.cell? ⟨b, 4, none⟩ = some (tx r.tgt)
  c5 : w.cell? ⟨b, 5, none⟩ = some (tx r.txt)
theorem BoxQ.new (w : World) (r : Rl) : BoxQ (w.alloc (.cells #[tx r.frm.name, .int .i64 r.frm.kind, tx r.frm.text, .int .i64 r.act, tx r.tgt, tx r.txt] 51)) w.heap.size r := by
  constructor <;> simp [go_sem]
theorem BoxQ.later {w w' : World} {b : Nat} {r : Rl} (h : BoxQ w b r) (hb : Below w.heap.size w w') : BoxQ w' b r := by
  have hl : b < w.heap.size := World.block_lt_of_cell? _ _ h.c0
  exact ⟨(hb.cell (p := ⟨b, 0, none⟩) hl).trans h.c0, (hb.cell (p := ⟨b, 1, none⟩) hl).trans h.c1, (hb.cell (p := ⟨b, 2, none⟩) hl).trans h.c2, (hb.cell (p := ⟨b, 3, none⟩) hl).trans h.c3, (hb.cell (p := ⟨b, 4, none⟩) hl).trans h.c4, (hb.cell (p := ⟨b, 5, none⟩) hl).trans h.c5⟩

set_option maxHeartbeats 2000000 in
theorem isQ_any (r : Rl) (w : World) (hf : FitR r) : Calls Tryz.prog 28 #[qv r] w fun e w' => e = .returned (.bool (fRule r)) ∧ Below w.heap.size w w' := by
  have hism := fun W => isM_any r.frm W hf.1
  have hnm := fun W => name_any r.tgt W (by have := hf.2.2.1; unfold Big at this; omega)
  have htx := isText_any r.txt
  have htf := isText_any r.frm.text
  have hsn := setsNothing_any r
  have hbx := BoxQ.new w r
  have hb0 := bal (Below.refl _ w) (.cells #[tx r.frm.name, .int .i64 r.frm.kind, tx r.frm.text, .int .i64 r.act, tx r.tgt, tx r.txt] 51)
  unfold fRule
  clear hf
  obtain ⟨act, ⟨nn, kk, tt⟩, tgt, txt⟩ := r
  dsimp only at *
  generalize hfm : fMat ⟨nn, kk, tt⟩ = fm at *
  generalize hfn : fName tgt = fn at *
  generalize hft : fText txt = ft at *
  generalize hfu : fText tt = fu at *
  generalize hfb : bare ⟨act, ⟨nn, kk, tt⟩, tgt, txt⟩ = fb at *
  clear hfm hfn hft hfu hfb
  by_cases h1 : act = 1
  · subst h1
    cases fm with
    | false =>
      go_enter Tryz.func28, Tryz.ntmps28
      go_wp2_with fail
      generalize w.alloc (.cells _ 51) = w0 at *
      refine (hism _).mono ?_
      rintro e w1 ⟨rfl, hb1⟩
      have B1 := Below.chain hb0 hb1
      have hbx1 := hbx.later hb1
      go_wp2_with fail
      go_ret
      exact ⟨by simp, B1⟩
    | true =>
      go_enter Tryz.func28, Tryz.ntmps28
      go_wp2_with fail
      generalize w.alloc (.cells _ 51) = w0 at *
      refine (hism _).mono ?_
      rintro e w1 ⟨rfl, hb1⟩
      have B1 := Below.chain hb0 hb1
      have hbx1 := hbx.later hb1
      have cc := hbx1
      obtain ⟨c0, c1, c2, c3, c4, c5⟩ := cc
      dsimp only at c0 c1 c2 c3 c4 c5
      go_wp2_with fail
      refine (hsn _).mono ?_
      rintro e w2 ⟨rfl, hb2⟩
      have B2 := Below.chain B1 hb2
      have hbx2 := hbx1.later hb2
      go_wp2_with fail
      go_ret
      exact ⟨by simp, B2⟩
  · have t1 : (act == 1) = false := by simpa using h1
    by_cases h2 : act = 2
    · subst h2
      cases fm with
      | false =>
        go_enter Tryz.func28, Tryz.ntmps28
        go_wp2_with fail
        generalize w.alloc (.cells _ 51) = w0 at *
        refine (hism _).mono ?_
        rintro e w1 ⟨rfl, hb1⟩
        have B1 := Below.chain hb0 hb1
        have hbx1 := hbx.later hb1
        go_wp2_with fail
        go_ret
        exact ⟨by simp, B1⟩
      | true =>
        go_enter Tryz.func28, Tryz.ntmps28
        go_wp2_with fail
        generalize w.alloc (.cells _ 51) = w0 at *
        refine (hism _).mono ?_
        rintro e w1 ⟨rfl, hb1⟩
        have B1 := Below.chain hb0 hb1
        have hbx1 := hbx.later hb1
        have cc := hbx1
        obtain ⟨c0, c1, c2, c3, c4, c5⟩ := cc
        dsimp only at c0 c1 c2 c3 c4 c5
        go_wp2_with fail
        refine (hsn _).mono ?_
        rintro e w2 ⟨rfl, hb2⟩
        have B2 := Below.chain B1 hb2
        have hbx2 := hbx1.later hb2
        go_wp2_with fail
        go_ret
        exact ⟨by simp, B2⟩
    · have t2 : (act == 2) = false := by simpa using h2
      by_cases h3 : act = 3
      · subst h3
        cases fm with
        | false =>
          go_enter Tryz.func28, Tryz.ntmps28
          go_wp2_with fail
          generalize w.alloc (.cells _ 51) = w0 at *
          refine (hism _).mono ?_
          rintro e w1 ⟨rfl, hb1⟩
          have B1 := Below.chain hb0 hb1
          have hbx1 := hbx.later hb1
          go_wp2_with fail
          go_ret
          exact ⟨by simp, B1⟩
        | true =>
          cases fn with
          | false =>
            go_enter Tryz.func28, Tryz.ntmps28
            go_wp2_with fail
            generalize w.alloc (.cells _ 51) = w0 at *
            refine (hism _).mono ?_
            rintro e w1 ⟨rfl, hb1⟩
            have B1 := Below.chain hb0 hb1
            have hbx1 := hbx.later hb1
            have cc := hbx1
            obtain ⟨c0, c1, c2, c3, c4, c5⟩ := cc
            dsimp only at c0 c1 c2 c3 c4 c5
            go_wp2_with fail
            refine (hnm _).mono ?_
            rintro e w2 ⟨rfl, rfl⟩
            go_wp2_with fail
            go_ret
            exact ⟨by simp, B1⟩
          | true =>
            go_enter Tryz.func28, Tryz.ntmps28
            go_wp2_with fail
            generalize w.alloc (.cells _ 51) = w0 at *
            refine (hism _).mono ?_
            rintro e w1 ⟨rfl, hb1⟩
            have B1 := Below.chain hb0 hb1
            have hbx1 := hbx.later hb1
            have cc := hbx1
            obtain ⟨c0, c1, c2, c3, c4, c5⟩ := cc
            dsimp only at c0 c1 c2 c3 c4 c5
            go_wp2_with fail
            refine (hnm _).mono ?_
            rintro e w2 ⟨rfl, rfl⟩
            go_wp2_with fail
            refine (htx _).mono ?_
            rintro e w3 ⟨rfl, rfl⟩
            go_wp2_with fail
            go_ret
            exact ⟨by simp, B1⟩
      · have t3 : (act == 3) = false := by simpa using h3
        by_cases h4 : act = 4
        · subst h4
          by_cases en : nn = []
          · have en' := emp_t en
            clear en
            by_cases ek : kk = 0
            · subst ek
              cases fu with
              | false =>
                go_enter Tryz.func28, Tryz.ntmps28
                go_wp2_with fail
                generalize w.alloc (.cells _ 51) = w0 at *
                refine (htf _).mono ?_
                rintro e w1 ⟨rfl, rfl⟩
                go_wp2_with fail
                go_ret
                exact ⟨by simp, hb0⟩
              | true =>
                go_enter Tryz.func28, Tryz.ntmps28
                go_wp2_with fail
                generalize w.alloc (.cells _ 51) = w0 at *
                have cc := hbx
                obtain ⟨c0, c1, c2, c3, c4, c5⟩ := cc
                dsimp only at c0 c1 c2 c3 c4 c5
                refine (htf _).mono ?_
                rintro e w1 ⟨rfl, rfl⟩
                go_wp2_with fail
                refine (hsn _).mono ?_
                rintro e w2 ⟨rfl, hb2⟩
                have B2 := Below.chain hb0 hb2
                have hbx2 := hbx.later hb2
                go_wp2_with fail
                go_ret
                exact ⟨by simp, B2⟩
            · have ek' : (kk == 0) = false := by simpa using ek
              go_enter Tryz.func28, Tryz.ntmps28
              go_wp2_with fail
              generalize w.alloc (.cells _ 51) = w0 at *
              go_ret
              exact ⟨by simp, hb0⟩
          · have en' := emp_f en
            go_enter Tryz.func28, Tryz.ntmps28
            go_wp2_with fail
            generalize w.alloc (.cells _ 51) = w0 at *
            go_ret
            exact ⟨by simp, hb0⟩
        · have t4 : (act == 4) = false := by simpa using h4
          go_enter Tryz.func28, Tryz.ntmps28
          go_wp2_with fail
          go_ret
          exact ⟨by simp, hb0⟩

set_option maxHeartbeats 1000000 in
theorem isR_any (r : Rl) (w : World) (hf : FitR r) : Calls Tryz.prog 12 #[rv r] w fun e w' => e = .returned (.bool (fRule r)) ∧ Below w.heap.size w w' := by
  have hq := fun W => isQ_any r W hf
  have hro := ruleOf_any r
  have hb0 := bal (Below.refl _ w) (.cells #[.int .i64 r.act, tx r.frm.name, .int .i64 r.frm.kind, tx r.frm.text, tx r.tgt, tx r.txt] 35)
  generalize fRule r = x at *
  clear hf
  obtain ⟨act, ⟨nn, kk, tt⟩, tgt, txt⟩ := r
  go_enter Tryz.func12, Tryz.ntmps12
  go_wp2_with fail
  generalize w.alloc (.cells _ 35) = w0 at *
  refine (hro _).mono ?_
  rintro e w1 ⟨rfl, hb1⟩
  go_wp2_with fail
  refine (hq _).mono ?_
  rintro e w2 ⟨rfl, hb2⟩
  go_wp2_with fail
  go_ret
  exact ⟨rfl, Below.chain (Below.chain hb0 hb1) hb2⟩
end Go.Proofs.YtideieolgjhbiaaGreatDoor
