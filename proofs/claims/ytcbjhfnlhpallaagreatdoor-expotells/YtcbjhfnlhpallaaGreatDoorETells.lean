/- ExpoTells: true, for every body and every line. -/
import Derived.Test.YtcbjhfnlhpallaaGreatDoorERefP
import Derived.Test.YtcbjhfnlhpallaaGreatDoorECmp
namespace Go.Proofs.YtcbjhfnlhpallaaGreatDoor
open Go.RowKit

theorem thin_step6 {st : St} {i : Nat} {s : Str} (h : Thin st.out) : Thin (stepL st i s).out := by
  unfold stepL
  split
  · exact h
  · split
    · cases fNote s <;> exact h
    · split
      · intro x hx
        rcases List.mem_append.1 hx with hx | hx
        · exact h x hx
        · simp at hx
          subst hx
          exact (lineS_fit s).1
      · exact h
theorem thin_run6 : ∀ (l : List Str) (st : St) (i : Nat), Thin st.out → Thin (runL st i l).out
  | [], _, _, h => h
  | _ :: l, _, _, h => thin_run6 l _ _ (thin_step6 h)
theorem len_run6 : ∀ (l : List Str) (st : St) (i : Nat), (runL st i l).out.length ≤ st.out.length + l.length ∧ (runL st i l).bad.length ≤ st.bad.length + l.length
  | [], st, i => by simp [runL]
  | s :: l, st, i => by
    have h := len_run6 l (stepL st i s) (i + 1)
    have h2 : (stepL st i s).out.length ≤ st.out.length + 1 ∧ (stepL st i s).bad.length ≤ st.bad.length + 1 := by
      unfold stepL
      split
      · omega
      · split
        · cases fNote s <;> simp [noted]
        · split <;> simp
    rw [runL]
    simp
    omega
theorem body_size (s : Str) : Thin (bodyS s).out ∧ (bodyS s).out.length ≤ s.length + 1 ∧ (bodyS s).bad.length ≤ s.length + 1 := by
  unfold bodyS
  split
  · refine ⟨fun x hx => ?_, by simp, by simp⟩
    cases hx
  · have h := len_run6 (sp 10 s) st0 1
    have h2 := sp_len 10 s
    have e1 : st0.out.length = 0 := rfl
    have e2 : st0.bad.length = 0 := rfl
    refine ⟨thin_run6 _ _ _ (fun x hx => by cases hx), ?_, ?_⟩ <;> omega
/-- The reference's Parse, as its callers read it. -/
theorem refParseV_any (s : Str) (w : World) (hs : s.length ≤ 100000) :
    Calls Tryz.prog 11 #[tx s] w fun e w' => ∃ ao cap uo uc yo yc, e = .returned (.tuple #[.slice ao (bodyS s).out.length cap, .slice uo (bodyS s).bad.length uc, .slice yo (bodyS s).bad.length yc]) ∧ Xs w' ao (bodyS s).out.length (bodyS s).out ∧ Ints w' uo (bodyS s).bad.length ((bodyS s).bad.map (·.1)) ∧ Ints w' yo (bodyS s).bad.length ((bodyS s).bad.map (·.2)) ∧ Below w.heap.size w w' := by
  refine (refParseX_any s w hs).mono ?_
  rintro e w' ⟨ov, uv, yv, l, rfl, hx, ho, hu, hy, hB⟩
  obtain ⟨ao, cap, rfl, h1⟩ := hx.view ho
  obtain ⟨uo, uc, rfl, h2⟩ := hu.view
  obtain ⟨yo, yc, rfl, h3⟩ := hy.view
  simp only [List.length_map] at h2 h3 ⊢
  exact ⟨ao, cap, uo, uc, yo, yc, rfl, h1, h2, h3, hB⟩
set_option maxRecDepth 40000 in
set_option maxHeartbeats 16000000 in
theorem tells_any (s line : Str) (w : World) (hs : s.length ≤ 9223372036854775807) (hl : line.length ≤ 9223372036854775807) (he : Ev w) : Calls Tryz.prog 3 #[tx s, tx line] w fun e w' => e = .returned (.bool true) ∧ Below w.heap.size w w' := by
  have hk := known_any w he
  by_cases h1 : (3100 : Int) < s.length
  · go_enter Tryz.func3, Tryz.ntmps3
    go_wp2_with fail
    refine hk.mono ?_
    rintro e w1 ⟨rfl, hb1⟩
    go_wp2
    go_ret
    exact ⟨rfl, hb1⟩
  · by_cases h2 : (400 : Int) < line.length
    · go_enter Tryz.func3, Tryz.ntmps3
      go_wp2_with fail
      refine hk.mono ?_
      rintro e w1 ⟨rfl, hb1⟩
      go_wp2
      go_ret
      exact ⟨rfl, hb1⟩
    · have hps := fun W h => parseV_any s W (by omega) h
      have hrp := fun W => refParseV_any s W (by omega)
      have hli := fun W h => line_any line W (by omega) h
      have hrl := fun W => refLine_any line W (by omega)
      obtain ⟨hth, hol, hbl⟩ := body_size s
      have hf1 := (lineS_fit line).1
      have hUS : ∀ i, i < (bodyS s).bad.length → ((bodyS s).bad.map (·.1)).getD i 0 = ((bodyS s).bad.getD i (0, 0)).1 := fun i hi => by simp [List.getD, List.getElem?_eq_getElem hi]
      have hYS : ∀ i, i < (bodyS s).bad.length → ((bodyS s).bad.map (·.2)).getD i 0 = ((bodyS s).bad.getD i (0, 0)).2 := fun i hi => by simp [List.getD, List.getElem?_eq_getElem hi]
      generalize (bodyS s).out = OU at *
      generalize (bodyS s).bad.map (·.1) = US at *
      generalize (bodyS s).bad.map (·.2) = YS at *
      generalize (bodyS s).bad = BA at *
      generalize lineS line = X at *
      generalize lineE line = E at *
      have HEQ : Hid (eqL OU OU = true) := (eqL_iff _ _).2 rfl
      have HES : Hid (eqS X X = true) := (eqS_iff _ _).2 rfl
      have hff : ((BA.length : Int) != BA.length) = false := by simp
      have hee : (E != E) = false := by simp
      go_enter Tryz.func3, Tryz.ntmps3
      go_wp2_with fail
      refine hk.mono ?_
      rintro e w1 ⟨rfl, hb1⟩
      go_wp2_with fail
      refine (hps _ (he.later hb1)).mono ?_
      rintro e w2 ⟨xo, xcap, bo, bcap, rfl, hxs, hbs, hb2⟩
      have B2 := Below.chain hb1 hb2
      go_wp2_with fail
      refine (hrp _).mono ?_
      rintro e w3 ⟨yo, ycap, uo, uc, vo, vc, rfl, hys, hus, hvs, hb3⟩
      have B3 := Below.chain B2 hb3
      have hxs3 := hxs.later hb3
      have hbs3 := hbs.later hb3
      clear hxs hbs hps hrp
      go_wp2_with fail
      refine (hli _ (he.later B3)).mono ?_
      rintro e w4 ⟨v4, rfl, ho4, hb4⟩
      obtain ⟨la, lc, rfl, hpl⟩ := ho4.fitN
      have hb5 := bal hb4 (.cells #[.slice la X.ls.length lc, .bool X.ov, .int .i64 X.n, .int .i64 X.t, .bool X.has, .int .i64 X.kind] 34)
      have hx5 := BoxX.new w4 (.slice la X.ls.length lc) X
      have hp5 := hpl.later (bal (Below.refl _ w4) (.cells #[.slice la X.ls.length lc, .bool X.ov, .int .i64 X.n, .int .i64 X.t, .bool X.has, .int .i64 X.kind] 34))
      go_wp2_with fail
      generalize w4.alloc (.cells _ 34) = w5 at *
      refine (hrl _).mono ?_
      rintro e w6 ⟨v6, rfl, ho6, hb6⟩
      obtain ⟨la', lc', rfl, hpl'⟩ := ho6.fitN
      have hz7 := bal (Below.refl _ w6) (.cells #[.slice la' X.ls.length lc', .bool X.ov, .int .i64 X.n, .int .i64 X.t, .bool X.has, .int .i64 X.kind] 34)
      have hb7 := Below.chain hb6 hz7
      have hy7 := BoxX.new w6 (.slice la' X.ls.length lc') X
      have hx7 := hx5.later hb7
      have hp7 := hp5.later hb7
      have hq7 := hpl'.later hz7
      have B7 := Below.chain (Below.chain B3 hb5) hb7
      have H7 := Below.chain hb5 hb7
      have hxs7 := hxs3.later H7
      have hys7 := hys.later H7
      have hbs7 := hbs3.later H7
      have hus7 := hus.later H7
      have hvs7 := hvs.later H7
      clear hxs3 hbs3 hys hus hvs hx5 hp5 hpl hpl' ho4 ho6 hz7 hli hrl H7
      go_wp2_with fail
      generalize w6.alloc (.cells _ 34) = w7 at *
      have hsm := sames_any xo OU.length xcap OU yo OU.length ycap OU w7 (by omega) hth hth hxs7 hys7
      rw [HEQ.out] at hsm
      refine hsm.mono ?_
      rintro e w8 ⟨rfl, hb8⟩
      have B8 := Below.chain B7 hb8
      have hx8 := hx7.later hb8
      have hy8 := hy7.later hb8
      have hse := same_any la lc X la' lc' X w8 hf1 hf1 (hp7.later hb8) (hq7.later hb8)
      rw [HES.out] at hse
      obtain ⟨c0, c1, c2, c3, c4, c5, f0, f1, f2, f3, f4, f5⟩ := hx8
      obtain ⟨d0, d1, d2, d3, d4, d5, g0, g1, g2, g3, g4, g5⟩ := hy8
      clear hsm hx7 hy7 hp7 hq7 hxs7 hys7
      go_wp2_with fail
      refine hse.mono ?_
      rintro e w9 ⟨rfl, hb9⟩
      have B9 := Below.chain B8 hb9
      have hb79 := Below.chain hb8 hb9
      obtain ⟨_, hbc⟩ := hbs7.later hb79
      obtain ⟨_, huc⟩ := hus7.later hb79
      obtain ⟨_, hvc⟩ := hvs7.later hb79
      clear hse c0 c1 c2 c3 c4 c5 f0 f1 f2 f3 f4 f5 d0 d1 d2 d3 d4 d5 g0 g1 g2 g3 g4 g5 hbs7 hus7 hvs7
      go_wp2_with fail
      go_loopw [14] (fun i wq => ∃ q : Nat, q ≤ BA.length ∧ i = .int .i64 q ∧ Below w9.heap.size w9 wq) (fun i _ => BA.length - (intOf i).toNat)
      case atStart => exact ⟨0, by omega, rfl, Below.refl _ _⟩
      case round =>
        obtain ⟨q, hq, rfl, hbq⟩ := hrel
        by_cases hlq : q < BA.length
        · obtain ⟨b1, o1, rfl, t1⟩ := hbc (by omega)
          obtain ⟨b2, o2, rfl, t2⟩ := huc (by omega)
          obtain ⟨b3, o3, rfl, t3⟩ := hvc (by omega)
          have x5 := cell_later' (t1 q hlq).1 hbq
          have x6 := cell_later' (t1 q hlq).2 hbq
          have y5 := cell_later' (t2 q hlq) hbq
          have z5 := cell_later' (t3 q hlq) hbq
          rw [hUS q hlq] at y5
          rw [hYS q hlq] at z5
          clear t1 t2 t3 hbc huc hvc hUS hYS
          generalize (BA.getD q (0, 0)).1 = k1 at *
          generalize (BA.getD q (0, 0)).2 = k2 at *
          have hk1 : (k1 != k1) = false := by simp
          have hk2 : (k2 != k2) = false := by simp
          go_wp2
          go_quiet (fail)
          go_wp2
          go_roundw
          case rel => exact ⟨q + 1, by omega, by go_num, below_drewN hbq _⟩
          case measure => simp [intOf]; omega
        · go_wp2
          go_ret
          exact ⟨rfl, Below.chain B9 hbq⟩
end Go.Proofs.YtcbjhfnlhpallaaGreatDoor
