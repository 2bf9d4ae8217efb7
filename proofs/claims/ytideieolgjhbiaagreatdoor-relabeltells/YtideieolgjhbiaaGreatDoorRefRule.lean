/- The reference's IsRule: as the program's. -/
import Derived.Test.YtideieolgjhbiaaGreatDoorBoxR
import Derived.Test.YtideieolgjhbiaaGreatDoorRefOne
namespace Go.Proofs.YtideieolgjhbiaaGreatDoor
open Go.RowKit

theorem fText_r (s : Str) : fText s = rVal s := by
  unfold fText rVal
  rw [Bool.and_comm]
set_option maxHeartbeats 4000000 in
theorem refRule_any (r : Rl) (w : World) (hf : FitR r) : Calls Tryz.prog 13 #[rv r] w fun e w' => e = .returned (.bool (fRule r)) ∧ Below w.heap.size w w' := by
  have hism := fun W => refIsM_any r.frm W hf.1 hf.2.1
  have hnm := fun W => refName_any r.tgt W hf.2.2.1
  have hvt := fun W => refValue_any r.txt W hf.2.2.2
  have hvf := fun W => refValue_any r.frm.text W hf.2.1
  rw [← fText_r] at hvt hvf
  have hbx := BoxR.new w r
  have hb0 := bal (Below.refl _ w) (cR r)
  unfold fRule
  clear hf
  obtain ⟨act, ⟨nn, kk, tt⟩, tgt, txt⟩ := r
  unfold bare
  dsimp only at *
  generalize fMat ⟨nn, kk, tt⟩ = fm at *
  generalize fName tgt = fn at *
  generalize fText txt = ft at *
  generalize fText tt = fu at *
  by_cases h1 : act = 1
  · subst h1
    cases fm with
    | false =>
      go_enter Tryz.func13, Tryz.ntmps13
      go_wp2_with fail
      generalize w.alloc (.cells _ 35) = w0 at *
      refine (hism _).mono ?_
      rintro e w1 ⟨rfl, hb1⟩
      have B1 := Below.chain hb0 hb1
      have hbx1 := hbx.later hb1
      have cc := hbx1
      obtain ⟨c0, c1, c2, c3, c4, c5⟩ := cc
      dsimp only at c0 c1 c2 c3 c4 c5
      go_wp2_with fail
      go_ret
      exact ⟨by simp, B1⟩
    | true =>
      by_cases et : tgt = []
      · have et' := emp_t et
        clear et
        by_cases ex : txt = []
        · have ex' := emp_t ex
          clear ex
          go_enter Tryz.func13, Tryz.ntmps13
          go_wp2_with fail
          generalize w.alloc (.cells _ 35) = w0 at *
          refine (hism _).mono ?_
          rintro e w1 ⟨rfl, hb1⟩
          have B1 := Below.chain hb0 hb1
          have hbx1 := hbx.later hb1
          have cc := hbx1
          obtain ⟨c0, c1, c2, c3, c4, c5⟩ := cc
          dsimp only at c0 c1 c2 c3 c4 c5
          go_wp2_with fail
          go_ret
          exact ⟨by simp, B1⟩
        · have ex' := emp_f ex
          go_enter Tryz.func13, Tryz.ntmps13
          go_wp2_with fail
          generalize w.alloc (.cells _ 35) = w0 at *
          refine (hism _).mono ?_
          rintro e w1 ⟨rfl, hb1⟩
          have B1 := Below.chain hb0 hb1
          have hbx1 := hbx.later hb1
          have cc := hbx1
          obtain ⟨c0, c1, c2, c3, c4, c5⟩ := cc
          dsimp only at c0 c1 c2 c3 c4 c5
          go_wp2_with fail
          go_ret
          exact ⟨by simp, B1⟩
      · have et' := emp_f et
        go_enter Tryz.func13, Tryz.ntmps13
        go_wp2_with fail
        generalize w.alloc (.cells _ 35) = w0 at *
        refine (hism _).mono ?_
        rintro e w1 ⟨rfl, hb1⟩
        have B1 := Below.chain hb0 hb1
        have hbx1 := hbx.later hb1
        have cc := hbx1
        obtain ⟨c0, c1, c2, c3, c4, c5⟩ := cc
        dsimp only at c0 c1 c2 c3 c4 c5
        go_wp2_with fail
        go_ret
        exact ⟨by simp, B1⟩
  · have t1 : (act == 1) = false := by simpa using h1
    by_cases h2 : act = 2
    · subst h2
      cases fm with
      | false =>
        go_enter Tryz.func13, Tryz.ntmps13
        go_wp2_with fail
        generalize w.alloc (.cells _ 35) = w0 at *
        refine (hism _).mono ?_
        rintro e w1 ⟨rfl, hb1⟩
        have B1 := Below.chain hb0 hb1
        have hbx1 := hbx.later hb1
        have cc := hbx1
        obtain ⟨c0, c1, c2, c3, c4, c5⟩ := cc
        dsimp only at c0 c1 c2 c3 c4 c5
        go_wp2_with fail
        go_ret
        exact ⟨by simp, B1⟩
      | true =>
        by_cases et : tgt = []
        · have et' := emp_t et
          clear et
          by_cases ex : txt = []
          · have ex' := emp_t ex
            clear ex
            go_enter Tryz.func13, Tryz.ntmps13
            go_wp2_with fail
            generalize w.alloc (.cells _ 35) = w0 at *
            refine (hism _).mono ?_
            rintro e w1 ⟨rfl, hb1⟩
            have B1 := Below.chain hb0 hb1
            have hbx1 := hbx.later hb1
            have cc := hbx1
            obtain ⟨c0, c1, c2, c3, c4, c5⟩ := cc
            dsimp only at c0 c1 c2 c3 c4 c5
            go_wp2_with fail
            go_ret
            exact ⟨by simp, B1⟩
          · have ex' := emp_f ex
            go_enter Tryz.func13, Tryz.ntmps13
            go_wp2_with fail
            generalize w.alloc (.cells _ 35) = w0 at *
            refine (hism _).mono ?_
            rintro e w1 ⟨rfl, hb1⟩
            have B1 := Below.chain hb0 hb1
            have hbx1 := hbx.later hb1
            have cc := hbx1
            obtain ⟨c0, c1, c2, c3, c4, c5⟩ := cc
            dsimp only at c0 c1 c2 c3 c4 c5
            go_wp2_with fail
            go_ret
            exact ⟨by simp, B1⟩
        · have et' := emp_f et
          go_enter Tryz.func13, Tryz.ntmps13
          go_wp2_with fail
          generalize w.alloc (.cells _ 35) = w0 at *
          refine (hism _).mono ?_
          rintro e w1 ⟨rfl, hb1⟩
          have B1 := Below.chain hb0 hb1
          have hbx1 := hbx.later hb1
          have cc := hbx1
          obtain ⟨c0, c1, c2, c3, c4, c5⟩ := cc
          dsimp only at c0 c1 c2 c3 c4 c5
          go_wp2_with fail
          go_ret
          exact ⟨by simp, B1⟩
    · have t2 : (act == 2) = false := by simpa using h2
      by_cases h3 : act = 3
      · subst h3
        cases fm with
        | false =>
          go_enter Tryz.func13, Tryz.ntmps13
          go_wp2_with fail
          generalize w.alloc (.cells _ 35) = w0 at *
          refine (hism _).mono ?_
          rintro e w1 ⟨rfl, hb1⟩
          have B1 := Below.chain hb0 hb1
          have hbx1 := hbx.later hb1
          have cc := hbx1
          obtain ⟨c0, c1, c2, c3, c4, c5⟩ := cc
          dsimp only at c0 c1 c2 c3 c4 c5
          go_wp2_with fail
          go_ret
          exact ⟨by simp, B1⟩
        | true =>
          cases fn with
          | false =>
            go_enter Tryz.func13, Tryz.ntmps13
            go_wp2_with fail
            generalize w.alloc (.cells _ 35) = w0 at *
            refine (hism _).mono ?_
            rintro e w1 ⟨rfl, hb1⟩
            have B1 := Below.chain hb0 hb1
            have hbx1 := hbx.later hb1
            have cc := hbx1
            obtain ⟨c0, c1, c2, c3, c4, c5⟩ := cc
            dsimp only at c0 c1 c2 c3 c4 c5
            go_wp2_with fail
            refine (hnm _).mono ?_
            rintro e w2 ⟨rfl, rfl⟩
            go_wp2_with fail
            go_ret
            exact ⟨by simp, B1⟩
          | true =>
            go_enter Tryz.func13, Tryz.ntmps13
            go_wp2_with fail
            generalize w.alloc (.cells _ 35) = w0 at *
            refine (hism _).mono ?_
            rintro e w1 ⟨rfl, hb1⟩
            have B1 := Below.chain hb0 hb1
            have hbx1 := hbx.later hb1
            have cc := hbx1
            obtain ⟨c0, c1, c2, c3, c4, c5⟩ := cc
            dsimp only at c0 c1 c2 c3 c4 c5
            go_wp2_with fail
            refine (hnm _).mono ?_
            rintro e w2 ⟨rfl, rfl⟩
            go_wp2_with fail
            refine (hvt _).mono ?_
            rintro e w3 ⟨rfl, rfl⟩
            go_wp2_with fail
            go_ret
            exact ⟨by simp, B1⟩
      · have t3 : (act == 3) = false := by simpa using h3
        by_cases h4 : act = 4
        · subst h4
          by_cases en : nn = []
          · have en' := emp_t en
            clear en
            by_cases ek : kk = 0
            · subst ek
              cases fu with
              | false =>
                go_enter Tryz.func13, Tryz.ntmps13
                go_wp2_with fail
                generalize w.alloc (.cells _ 35) = w0 at *
                have cc := hbx
                obtain ⟨c0, c1, c2, c3, c4, c5⟩ := cc
                dsimp only at c0 c1 c2 c3 c4 c5
                refine (hvf _).mono ?_
                rintro e w1 ⟨rfl, rfl⟩
                go_wp2_with fail
                go_ret
                exact ⟨by simp, hb0⟩
              | true =>
                by_cases et : tgt = []
                · have et' := emp_t et
                  clear et
                  by_cases ex : txt = []
                  · have ex' := emp_t ex
                    clear ex
                    go_enter Tryz.func13, Tryz.ntmps13
                    go_wp2_with fail
                    generalize w.alloc (.cells _ 35) = w0 at *
                    have cc := hbx
                    obtain ⟨c0, c1, c2, c3, c4, c5⟩ := cc
                    dsimp only at c0 c1 c2 c3 c4 c5
                    refine (hvf _).mono ?_
                    rintro e w1 ⟨rfl, rfl⟩
                    go_wp2_with fail
                    go_ret
                    exact ⟨by simp, hb0⟩
                  · have ex' := emp_f ex
                    go_enter Tryz.func13, Tryz.ntmps13
                    go_wp2_with fail
                    generalize w.alloc (.cells _ 35) = w0 at *
                    have cc := hbx
                    obtain ⟨c0, c1, c2, c3, c4, c5⟩ := cc
                    dsimp only at c0 c1 c2 c3 c4 c5
                    refine (hvf _).mono ?_
                    rintro e w1 ⟨rfl, rfl⟩
                    go_wp2_with fail
                    go_ret
                    exact ⟨by simp, hb0⟩
                · have et' := emp_f et
                  go_enter Tryz.func13, Tryz.ntmps13
                  go_wp2_with fail
                  generalize w.alloc (.cells _ 35) = w0 at *
                  have cc := hbx
                  obtain ⟨c0, c1, c2, c3, c4, c5⟩ := cc
                  dsimp only at c0 c1 c2 c3 c4 c5
                  refine (hvf _).mono ?_
                  rintro e w1 ⟨rfl, rfl⟩
                  go_wp2_with fail
                  go_ret
                  exact ⟨by simp, hb0⟩
            · have ek' : (kk == 0) = false := by simpa using ek
              go_enter Tryz.func13, Tryz.ntmps13
              go_wp2_with fail
              generalize w.alloc (.cells _ 35) = w0 at *
              go_ret
              exact ⟨by simp, hb0⟩
          · have en' := emp_f en
            go_enter Tryz.func13, Tryz.ntmps13
            go_wp2_with fail
            generalize w.alloc (.cells _ 35) = w0 at *
            go_ret
            exact ⟨by simp, hb0⟩
        · have t4 : (act == 4) = false := by simpa using h4
          go_enter Tryz.func13, Tryz.ntmps13
          go_wp2_with fail
          go_ret
          exact ⟨by simp, hb0⟩
end Go.Proofs.YtideieolgjhbiaaGreatDoor
