/- The reference's Parse: for every body. -/
import Derived.Test.YtcbjhfnlhpallaaGreatDoorERfM
import Derived.Test.YtcbjhfnlhpallaaGreatDoorEInts
namespace Go.Proofs.YtcbjhfnlhpallaaGreatDoor
open Go.RowKit

theorem Rf.fresh {base kb c : Nat} {w : World} {nv kv ov uv yv : Value} {ns : List Str} {ks : List Int} {sl : List (Value × Scr)} {k : Str → Int} {out : List Scr} {us ys : List Int} (h : Rf base w kb nv kv ov uv yv ns ks sl k out us ys c) {b : Nat} (hb : w.heap.size ≤ b) : nv.ownBlock ≠ some b ∧ kv.ownBlock ≠ some b ∧ uv.ownBlock ≠ some b ∧ yv.ownBlock ≠ some b ∧ ov.ownBlock ≠ some b :=
  ⟨fun e => by have := (World.ownsRow.lt h.kp.on b e).2; omega, fun e => by have := (World.ownsRow.lt h.kp.ok b e).2; omega, fun e => by have := (World.ownsRow.lt h.ou b e).2; omega, fun e => by have := (World.ownsRow.lt h.oy b e).2; omega, fun e => by have := (h.ox.row.lt b e).2; omega⟩
theorem OwnI.base {w : World} {b b' : Nat} {v : Value} {l : List Int} (h : OwnI w b' v l) (hb : b ≤ b') : OwnI w b v l := by
  refine ⟨h.1, ?_⟩
  rcases h.2 with h0 | ⟨g, cap, cur, rfl, hb', rest⟩
  · exact Or.inl h0
  · exact Or.inr ⟨g, cap, cur, rfl, Nat.le_trans hb hb', rest⟩
theorem noted_none (st : St) : noted st none = st := rfl
theorem kI_none {k : Str} (h : kOf k = none) : kI k = -1 := by unfold kI; rw [h]
theorem kI_some {k : Str} {x : Int} (h : kOf k = some x) : kI k = x ∧ 0 ≤ x := by
  refine ⟨by unfold kI; rw [h], ?_⟩
  rcases kOf_cases k with h1 | h1 | h1 | h1
  · have := h1.2; rw [h] at this; injection this with this; omega
  · have := h1.2.2; rw [h] at this; injection this with this; omega
  · have := h1.2.2.2; rw [h] at this; injection this with this; omega
  · have := h1.2.2.2; rw [h] at this; cases this
theorem far_of {w : World} {base kb : Nat} {a b nv kv : Value} {ns : List Str} {ks : List Int} (h : Kp w base kb a b nv kv ns ks) (hb : base ≤ w.heap.size) : ∀ c, (c < base ∧ c ≠ kb) → Far w kb nv kv c := fun c hc =>
  ⟨by omega, hc.2, fun e => by have := (World.ownsRow.lt h.on c e).1; omega, fun e => by have := (World.ownsRow.lt h.ok c e).1; omega⟩
set_option maxRecDepth 40000 in
set_option maxHeartbeats 16000000 in
theorem refParseX_any (s : Str) (w : World) (hs : s.length ≤ 100000) :
    Calls Tryz.prog 11 #[tx s] w fun e w' => ∃ ov uv yv l, e = .returned (.tuple #[ov, uv, yv]) ∧ OwnX w' ov l ∧ l.map (·.2) = (bodyS s).out ∧ OwnI w' w.heap.size uv ((bodyS s).bad.map (·.1)) ∧ OwnI w' w.heap.size yv ((bodyS s).bad.map (·.2)) ∧ Below w.heap.size w w' := by
  by_cases hl : 3000 < s.length
  · have HB : Hid (bodyS s = ⟨fun _ => 0, [], [(0, 11)]⟩) := by show _ = _; unfold bodyS; rw [if_pos hl]
    have hl' : (3000 : Int) < s.length := by omega
    have h1 := (OwnI.made w w.heap.size (Nat.le_refl _) 0).later (bal (Below.refl _ _) (.cells #[iv 11] 3))
    have h2 := OwnI.made (w.alloc (.cells #[iv 0] 3)) w.heap.size (by simp) 11
    have hsz : (w.alloc (.cells #[iv 0] 3)).heap.size = w.heap.size + 1 := by simp
    rw [hsz] at h2
    have HB2 : Below w.heap.size w ((w.alloc (.cells #[iv 0] 3)).alloc (.cells #[iv 11] 3)) := bal (bal (Below.refl _ _) _) _
    generalize bodyS s = B at *
    clear hl hsz
    go_enter Tryz.func11, Tryz.ntmps11
    go_wp2
    refine bodyPost_ret (v := .tuple #[.slice none 0 0, .slice (some ⟨w.heap.size, 0, none⟩) 1 1, .slice (some ⟨w.heap.size + 1, 0, none⟩) 1 1]) (by simp [results, Tryz.results11, go_sem]) rfl ?_
    exact ⟨_, _, _, [], rfl, ⟨World.ownsRow_nil _ _ _ _, by simp, by simp⟩, by rw [HB.out]; rfl, by rw [HB.out]; exact h1, by rw [HB.out]; exact h2, HB2⟩
  · have HB : Hid (bodyS s = runL st0 1 (sp 10 s)) := by show _ = _; unfold bodyS; rw [if_neg hl]
    have hl' : ¬ (3000 : Int) < s.length := by omega
    have hb0 : Below w.heap.size w (w.alloc (.cells #[.slice none 0 0, .slice none 0 0] 77)) := bal (Below.refl _ _) _
    have z0 : (w.alloc (.cells #[.slice none 0 0, .slice none 0 0] 77)).cell? ⟨w.heap.size, 0, none⟩ = some (.slice none 0 0) := by simp [go_sem]
    have z1 : (w.alloc (.cells #[.slice none 0 0, .slice none 0 0] 77)).cell? ⟨w.heap.size, 1, none⟩ = some (.slice none 0 0) := by simp [go_sem]
    have y0 : (w.alloc (.cells #[.slice none 0 0, .slice none 0 0] 77)).frozen? ⟨w.heap.size, 0, none⟩ = false := by simp [go_sem]
    have y1 : (w.alloc (.cells #[.slice none 0 0, .slice none 0 0] 77)).frozen? ⟨w.heap.size, 1, none⟩ = false := by simp [go_sem]
    have hln := refLines_any s (w.alloc (.cells #[.slice none 0 0, .slice none 0 0] 77)) (by omega)
    have hsub : ∀ a ∈ sp 10 s, a.length ≤ s.length := fun a ha => sp_sub ha
    have hcnt := sp_len 10 s
    have hne : 1 ≤ (sp 10 s).length := by
      have := spG_ne 10 s []
      cases e : sp 10 s with
      | nil => exact absurd e this
      | cons a b => simp
    generalize bodyS s = B at *
    generalize sp 10 s = L at *
    clear hl
    obtain ⟨i3, hi3, hz30, hz31, hz32⟩ := info_parts3
    obtain ⟨i9, hi9, hy0, hy1, hy2⟩ := info_parts34
    go_enter Tryz.func11, Tryz.ntmps11
    go_wp2_with fail
    have hk1 : w.heap.size < (w.alloc (.cells #[.slice none 0 0, .slice none 0 0] 77)).heap.size := by simp
    generalize w.alloc (.cells _ 77) = w1 at *
    refine hln.mono ?_
    rintro e wL ⟨vL, rfl, hoL, hbL⟩
    have hlL := fun b e => World.ownsRow.lt hoL b e
    obtain ⟨laL, capL, rfl, hss, _, _⟩ := hoL.slice
    obtain ⟨_, hss⟩ := hss
    obtain ⟨lb, lo, rfl, hcs⟩ := hss (by omega)
    obtain ⟨hlb1, hlb2⟩ := hlL lb rfl
    have BL := Below.chain hb0 hbL
    have hR0 : Rf wL.heap.size wL w.heap.size (.slice none 0 0) (.slice none 0 0) (.slice none 0 0) (.slice none 0 0) (.slice none 0 0) [] [] [] st0.k st0.out [] [] 0 :=
      ⟨⟨cell_later' z0 hbL, cell_later' z1 hbL, grown_frozen (grown_below hbL none) hk1 y0 (by simp), grown_frozen (grown_below hbL none) hk1 y1 (by simp), World.ownsRow_nil _ _ _ _, OwnI.none _ _, by have := hbL.size; omega⟩, rfl, Nat.le_refl _, fun _ => rfl, ⟨World.ownsRow_nil _ _ _ _, by simp, by simp⟩, rfl, Nat.le_refl _, by simp [Value.ownBlock], OwnI.none _ _, OwnI.none _ _, Nat.le_refl _, Nat.le_refl _, by simp [Value.ownBlock], by simp [Value.ownBlock], by simp, Nat.le_refl _⟩
    clear hss hln hb0 z0 z1 y0 y1 hoL hlL
    have hBk : ∀ W, Keep (fun b => b < wL.heap.size ∧ b ≠ w.heap.size) wL W → Below w.heap.size w W := fun W hK => BL.trans (hK.mono (fun b (hb : b < w.heap.size) => ⟨by have := BL.size; omega, by omega⟩)).below
    go_wp2_with fail
    go_loopw [5, 6, 7, 10] (fun o u y i wr => ∃ (j : Nat) (nv kv ov uv yv : Value) (ns : List Str) (ks : List Int) (sl : List (Value × Scr)), j ≤ L.length ∧ ov = o ∧ uv = u ∧ yv = y ∧ i = .int .i64 j ∧ Rf wL.heap.size wr w.heap.size nv kv ov uv yv ns ks sl (runL st0 1 (L.take j)).k (runL st0 1 (L.take j)).out ((runL st0 1 (L.take j)).bad.map (·.1)) ((runL st0 1 (L.take j)).bad.map (·.2)) j ∧ Keep (fun b => b < wL.heap.size ∧ b ≠ w.heap.size) wL wr) (fun _ _ _ i _ => L.length - (intOf i).toNat)
    case atStart => exact ⟨0, _, _, _, _, _, [], [], [], by omega, rfl, rfl, rfl, rfl, hR0, Keep.refl _ _⟩
    case round =>
      obtain ⟨j, nv, kv, ov, uv, yv, ns, ks, sl, hj, rfl, rfl, rfl, rfl, hr, hk⟩ := hrel
      by_cases hlt : j < L.length
      · have k0 : wr.cell? ⟨lb, lo + j, none⟩ = some (tx (L.getD j [])) := keep_cell hk ⟨hlb2, by omega⟩ (hcs j hlt)
        have hln : (L.getD j []).length ≤ s.length := hsub _ (by simp [List.getD, List.getElem?_eq_getElem hlt])
        have HT : Hid (runL st0 1 (L.take (j + 1)) = stepL (runL st0 1 (L.take j)) (j + 1) (L.getD j [])) := run_take hlt
        have hbw := hr.bw
        have hkK : ∀ W, Below wr.heap.size wr W → Keep (fun b => b < wL.heap.size ∧ b ≠ w.heap.size) wL W := fun W hB => hk.trans (Keep.of hB (fun b hb => by omega))
        clear hcs
        generalize L.getD j [] = a at *
        generalize runL st0 1 (L.take j) = st at *
        by_cases hs0 : a = []
        · have hs' : (a == []) = true := beq_iff_eq.2 hs0
          have HS : Hid (stepL st (j + 1) a = st) := by show _ = _; rw [hs0, stepL_nil]
          generalize stepL st (j + 1) a = st3 at *
          clear hs0
          go_wp2
          go_roundw
          case rel => exact ⟨j + 1, nv, kv, _, _, _, ns, ks, sl, by omega, rfl, rfl, rfl, by go_num, by rw [HT.out, HS.out]; exact hr.mono (Nat.le_succ _), hk⟩
          case measure => simp [intOf]; omega
        · have hs' : (a == []) = false := beq_eq_false_iff_ne.2 hs0
          have hpos : 0 < a.length := by
            cases a with
            | nil => exact absurd rfl hs0
            | cons x y => simp
          have hbk := ba_lt hpos
          by_cases hq : (((⟨a.toArray⟩ : ByteArray)[0]'hbk).toNat : Int) = 35
          · have hq' : ((((⟨a.toArray⟩ : ByteArray)[0]'hbk).toNat : Int) == 35) = true := beq_iff_eq.2 hq
            have HS : Hid (stepL st (j + 1) a = noted st (note4 (wd a))) := by
              show _ = _
              rw [note_wd]
              exact step_note hs0 (by rw [head_eq hpos, byte_eq (k := 35) (by decide) hq]; rfl)
            have hwd := refWords_any a wr (by omega)
            have hwl : ∀ x ∈ wd a, x.length ≤ a.length := fun x hx => wd_sub hx
            generalize stepL st (j + 1) a = st3 at *
            generalize wd a = WD at *
            clear hs0 hq
            by_cases h4 : WD.length = 4
            · obtain ⟨a0, a1, m, k, rfl⟩ := four_of h4
              have hm := hwl m (by simp)
              clear h4 hwl
              have hnm := fun W => refName_any m W (by omega)
              have hko := fun W => refKind_any k W
              by_cases ha : a0 = [35]
              · subst ha
                by_cases hb : a1 = tWord
                · have hbl : a1 = [84, 89, 80, 69] := hb
                  cases hf : fName m with
                  | false =>
                    have HF : Hid (st3 = st) := by show _ = _; rw [HS.out, note_no (by simp [hf])]; rfl
                    rw [hf] at hnm
                    subst hbl
                    clear HS hb hf
                    go_wp2_with fail
                    refine hwd.mono ?_
                    rintro e w3 ⟨v3, rfl, ho3, hb3⟩
                    have hl3 := fun b e => World.ownsRow.lt ho3 b e
                    obtain ⟨ao, cap, rfl, hss, _, _⟩ := ho3.slice
                    obtain ⟨_, hss⟩ := hss
                    obtain ⟨bk, off, rfl, hcs⟩ := hss (by simp)
                    obtain ⟨hb31, hb32⟩ := hl3 bk rfl
                    have k1 : w3.cell? ⟨bk, off, none⟩ = some (tx [35]) := hcs 0 (by simp)
                    have k2 : w3.cell? ⟨bk, off + 1, none⟩ = some (tx [84, 89, 80, 69]) := hcs 1 (by simp)
                    have k3 : w3.cell? ⟨bk, off + 2, none⟩ = some (tx m) := hcs 2 (by simp)
                    have k4 : w3.cell? ⟨bk, off + 3, none⟩ = some (tx k) := hcs 3 (by simp)
                    clear hcs hss hl3 ho3
                    have hr3 := hr.later hb3
                    go_wp2_with fail
                    refine (hnm _).mono ?_
                    rintro e w4 ⟨rfl, rfl⟩
                    go_wp2
                    go_roundw
                    case rel => exact ⟨j + 1, nv, kv, _, _, _, ns, ks, sl, by omega, rfl, rfl, rfl, by go_num, by rw [HT.out, HF.out]; exact (hr3).mono (Nat.le_succ _), hkK _ hb3⟩
                    case measure => simp [intOf]; omega
                  | true =>
                    have HN : Hid (note4 [[35], a1, m, k] = (kOf k).map fun x => (m, x)) := note_yes ⟨rfl, hb, hf⟩
                    rw [hf] at hnm
                    cases hkk : kOf k with
                    | none =>
                      have HF : Hid (st3 = st) := by show _ = _; rw [HS.out, HN.out, hkk]; rfl
                      have hko : ∀ W, Calls Tryz.prog 31 #[tx k] W _ := hko
                      simp only [kI_none hkk] at hko
                      subst hbl
                      clear HS HN hb hf hkk
                      go_wp2_with fail
                      refine hwd.mono ?_
                      rintro e w3 ⟨v3, rfl, ho3, hb3⟩
                      have hl3 := fun b e => World.ownsRow.lt ho3 b e
                      obtain ⟨ao, cap, rfl, hss, _, _⟩ := ho3.slice
                      obtain ⟨_, hss⟩ := hss
                      obtain ⟨bk, off, rfl, hcs⟩ := hss (by simp)
                      obtain ⟨hb31, hb32⟩ := hl3 bk rfl
                      have k1 : w3.cell? ⟨bk, off, none⟩ = some (tx [35]) := hcs 0 (by simp)
                      have k2 : w3.cell? ⟨bk, off + 1, none⟩ = some (tx [84, 89, 80, 69]) := hcs 1 (by simp)
                      have k3 : w3.cell? ⟨bk, off + 2, none⟩ = some (tx m) := hcs 2 (by simp)
                      have k4 : w3.cell? ⟨bk, off + 3, none⟩ = some (tx k) := hcs 3 (by simp)
                      clear hcs hss hl3 ho3
                      have hr3 := hr.later hb3
                      go_wp2_with fail
                      refine (hnm _).mono ?_
                      rintro e w4 ⟨rfl, rfl⟩
                      go_wp2_with fail
                      refine (hko _).mono ?_
                      rintro e w5 ⟨rfl, hb5⟩
                      have B5 := Below.chain hb3 hb5
                      have hr5 := hr3.later hb5
                      have q3 := cell_later' k3 hb5
                      have q4 := cell_later' k4 hb5
                      go_wp2
                      go_roundw
                      case rel => exact ⟨j + 1, nv, kv, _, _, _, ns, ks, sl, by omega, rfl, rfl, rfl, by go_num, by rw [HT.out, HF.out]; exact (hr5).mono (Nat.le_succ _), hkK _ B5⟩
                      case measure => simp [intOf]; omega
                    | some kd =>
                      have HF : Hid (st3 = ⟨upd st.k m kd, st.out, st.bad⟩) := by show _ = _; rw [HS.out, HN.out, hkk]; rfl
                      obtain ⟨hki, hkd⟩ := kI_some hkk
                      simp only [hki] at hko
                      subst hbl
                      clear HS HN hb hf hkk hki
                      go_wp2_with fail
                      refine hwd.mono ?_
                      rintro e w3 ⟨v3, rfl, ho3, hb3⟩
                      have hl3 := fun b e => World.ownsRow.lt ho3 b e
                      obtain ⟨ao, cap, rfl, hss, _, _⟩ := ho3.slice
                      obtain ⟨_, hss⟩ := hss
                      obtain ⟨bk, off, rfl, hcs⟩ := hss (by simp)
                      obtain ⟨hb31, hb32⟩ := hl3 bk rfl
                      have k1 : w3.cell? ⟨bk, off, none⟩ = some (tx [35]) := hcs 0 (by simp)
                      have k2 : w3.cell? ⟨bk, off + 1, none⟩ = some (tx [84, 89, 80, 69]) := hcs 1 (by simp)
                      have k3 : w3.cell? ⟨bk, off + 2, none⟩ = some (tx m) := hcs 2 (by simp)
                      have k4 : w3.cell? ⟨bk, off + 3, none⟩ = some (tx k) := hcs 3 (by simp)
                      clear hcs hss hl3 ho3
                      have hr3 := hr.later hb3
                      go_wp2_with fail
                      refine (hnm _).mono ?_
                      rintro e w4 ⟨rfl, rfl⟩
                      go_wp2_with fail
                      refine (hko _).mono ?_
                      rintro e w5 ⟨rfl, hb5⟩
                      have B5 := Below.chain hb3 hb5
                      have hr5 := hr3.later hb5
                      have q3 := cell_later' k3 hb5
                      have q4 := cell_later' k4 hb5
                      go_wp2_with fail
                      have D0 : Below w5.heap.size w5 w5.drew := (Below.refl _ _).drew
                      have hr6 := hr5.later D0
                      have B6 := Below.chain B5 D0
                      have S6 : w5.drew.cell? ⟨bk, off + 2, none⟩ = some (tx m) ∧ w5.drew.cell? ⟨bk, off + 3, none⟩ = some (tx k) := ⟨cell_later' q3 D0, cell_later' q4 D0⟩
                      refine wp_region_noPanic ?_
                      refine wp_region_held_drew (S := fun W => W.cell? ⟨bk, off + 2, none⟩ = some (tx m) ∧ W.cell? ⟨bk, off + 3, none⟩ = some (tx k)) (by kernel_rfl) ?_ (fun _ => ?_)
                      · exact S6
                      generalize w5.drew = w6 at *
                      refine take_at 0 (some 73) (.pointer (some ⟨w.heap.size, 0, none⟩)) rfl rfl (by kernel_rfl) (by kernel_rfl) (by kernel_rfl) (fun _ _ _ h => h) (by rfl) (fun W hSw => by go_simp) S6 ?_
                      simp only [Act.put, List.setIfInBounds_toArray, List.set_cons_zero, List.set_cons_succ]
                      refine take_at 1 (some 74) (.slice (some ⟨bk, off, none⟩) 4 cap) rfl rfl (by kernel_rfl) (by kernel_rfl) (by kernel_rfl) (fun _ _ _ h => h) (by rfl) (fun W hSw => by go_simp) S6 ?_
                      simp only [Act.put, List.setIfInBounds_toArray, List.set_cons_zero, List.set_cons_succ]
                      refine take_at 2 (some 75) (.pointer (some ⟨bk, off + 2, none⟩)) rfl rfl (by kernel_rfl) (by kernel_rfl) (by kernel_rfl) (fun _ _ _ h => h) (by rfl) (fun W hSw => by go_simp) S6 ?_
                      simp only [Act.put, List.setIfInBounds_toArray, List.set_cons_zero, List.set_cons_succ]
                      refine take_at 3 (some 76) (tx m) rfl rfl (by kernel_rfl) (by kernel_rfl) (by kernel_rfl) (fun _ _ _ h => h) (by rfl) (fun W hSw => by obtain ⟨s0, s1⟩ := hSw; go_simp) S6 ?_
                      simp only [Act.put, List.setIfInBounds_toArray, List.set_cons_zero, List.set_cons_succ]
                      refine take_at 4 (some 77) (.slice (some ⟨bk, off, none⟩) 4 cap) rfl rfl (by kernel_rfl) (by kernel_rfl) (by kernel_rfl) (fun _ _ _ h => h) (by rfl) (fun W hSw => by go_simp) S6 ?_
                      simp only [Act.put, List.setIfInBounds_toArray, List.set_cons_zero, List.set_cons_succ]
                      refine take_at 5 (some 78) (.pointer (some ⟨bk, off + 3, none⟩)) rfl rfl (by kernel_rfl) (by kernel_rfl) (by kernel_rfl) (fun _ _ _ h => h) (by rfl) (fun W hSw => by go_simp) S6 ?_
                      simp only [Act.put, List.setIfInBounds_toArray, List.set_cons_zero, List.set_cons_succ]
                      refine take_at 6 (some 79) (tx k) rfl rfl (by kernel_rfl) (by kernel_rfl) (by kernel_rfl) (fun _ _ _ h => h) (by rfl) (fun W hSw => by obtain ⟨s0, s1⟩ := hSw; go_simp) S6 ?_
                      simp only [Act.put, List.setIfInBounds_toArray, List.set_cons_zero, List.set_cons_succ]
                      refine wpAnyH_ready (rs := [7]) (by kernel_rfl) (by simp) ?_
                      refine AllReadyH.cons rfl (fun K hK => ?_) AllReadyH.nil
                      go_simp
                      refine (hko _).mono ?_
                      rintro e w7 ⟨rfl, hb7⟩
                      have hr7 := hr6.later hb7
                      have B7 := Below.chain B6 hb7
                      have S7 : w7.cell? ⟨bk, off + 2, none⟩ = some (tx m) ∧ w7.cell? ⟨bk, off + 3, none⟩ = some (tx k) := ⟨cell_later' S6.1 hb7, cell_later' S6.2 hb7⟩
                      refine hK.out _ _ ?_ (fun _ => ?_)
                      · exact S7
                      clear hK K
                      have hfr := hr.fresh hb31
                      have hst := kset_any w7 wL.heap.size w.heap.size nv kv ns ks m kd hr7.kp hr7.nk (by have := hr7.nc; omega) hr7.bw
                      refine wpAnyH_ready (rs := [8]) (by kernel_rfl) (by simp) ?_
                      refine AllReadyH.cons rfl (fun K hK => ?_) AllReadyH.nil
                      go_simp
                      refine hst.mono ?_
                      rintro e w8 ⟨rfl, nv', kv', kp8, K8, hn8, hk8⟩
                      have hfb : Far w7 w.heap.size nv kv bk := ⟨World.block_lt_of_cell? _ _ S7.1, by have := hr.kp.kl; omega, hfr.1, hfr.2.1⟩
                      have S8 : w8.cell? ⟨bk, off + 2, none⟩ = some (tx m) ∧ w8.cell? ⟨bk, off + 3, none⟩ = some (tx k) := ⟨keep_cell K8 hfb S7.1, keep_cell K8 hfb S7.2⟩
                      refine hK.out _ _ ?_ (fun _ => ?_)
                      · exact S8
                      clear hK K
                      refine wpAnyH_done (by kernel_rfl) ?_ _
                      refine NoPanic.normal ?_
                      have hr8 := hr7.told K8 kp8 hn8 hk8
                      have K9 := (hkK _ B7).trans (K8.mono (far_of hr7.kp hr7.bw))
                      go_wp2
                      go_roundw
                      case rel => exact ⟨j + 1, nv', kv', _, _, _, _, _, sl, by omega, rfl, rfl, rfl, by go_num, by rw [HT.out, HF.out]; exact hr8, K9⟩
                      case measure => simp [intOf]; omega
                · have hb' : (a1 == [84, 89, 80, 69]) = false := beq_eq_false_iff_ne.2 hb
                  have HF : Hid (st3 = st) := by show _ = _; rw [HS.out, note_no (by simp [hb])]; rfl
                  clear HS hb
                  go_wp2_with fail
                  refine hwd.mono ?_
                  rintro e w3 ⟨v3, rfl, ho3, hb3⟩
                  have hl3 := fun b e => World.ownsRow.lt ho3 b e
                  obtain ⟨ao, cap, rfl, hss, _, _⟩ := ho3.slice
                  obtain ⟨_, hss⟩ := hss
                  obtain ⟨bk, off, rfl, hcs⟩ := hss (by simp)
                  obtain ⟨hb31, hb32⟩ := hl3 bk rfl
                  have k1 : w3.cell? ⟨bk, off, none⟩ = some (tx [35]) := hcs 0 (by simp)
                  have k2 : w3.cell? ⟨bk, off + 1, none⟩ = some (tx a1) := hcs 1 (by simp)
                  have k3 : w3.cell? ⟨bk, off + 2, none⟩ = some (tx m) := hcs 2 (by simp)
                  have k4 : w3.cell? ⟨bk, off + 3, none⟩ = some (tx k) := hcs 3 (by simp)
                  clear hcs hss hl3 ho3
                  have hr3 := hr.later hb3
                  go_wp2
                  go_roundw
                  case rel => exact ⟨j + 1, nv, kv, _, _, _, ns, ks, sl, by omega, rfl, rfl, rfl, by go_num, by rw [HT.out, HF.out]; exact (hr3).mono (Nat.le_succ _), hkK _ hb3⟩
                  case measure => simp [intOf]; omega
              · have ha' : (a0 == [35]) = false := beq_eq_false_iff_ne.2 ha
                have HF : Hid (st3 = st) := by show _ = _; rw [HS.out, note_no (by simp [ha])]; rfl
                clear HS ha
                go_wp2_with fail
                refine hwd.mono ?_
                rintro e w3 ⟨v3, rfl, ho3, hb3⟩
                have hl3 := fun b e => World.ownsRow.lt ho3 b e
                obtain ⟨ao, cap, rfl, hss, _, _⟩ := ho3.slice
                obtain ⟨_, hss⟩ := hss
                obtain ⟨bk, off, rfl, hcs⟩ := hss (by simp)
                obtain ⟨hb31, hb32⟩ := hl3 bk rfl
                have k1 : w3.cell? ⟨bk, off, none⟩ = some (tx a0) := hcs 0 (by simp)
                have k2 : w3.cell? ⟨bk, off + 1, none⟩ = some (tx a1) := hcs 1 (by simp)
                have k3 : w3.cell? ⟨bk, off + 2, none⟩ = some (tx m) := hcs 2 (by simp)
                have k4 : w3.cell? ⟨bk, off + 3, none⟩ = some (tx k) := hcs 3 (by simp)
                clear hcs hss hl3 ho3
                have hr3 := hr.later hb3
                go_wp2
                go_roundw
                case rel => exact ⟨j + 1, nv, kv, _, _, _, ns, ks, sl, by omega, rfl, rfl, rfl, by go_num, by rw [HT.out, HF.out]; exact (hr3).mono (Nat.le_succ _), hkK _ hb3⟩
                case measure => simp [intOf]; omega
            · have HF : Hid (st3 = st) := by show _ = _; rw [HS.out, note4_len h4]; rfl
              have h4' : ((WD.length : Int) == 4) = false := beq_eq_false_iff_ne.2 (by omega)
              clear HS h4 hwl
              go_wp2_with fail
              refine hwd.mono ?_
              rintro e w3 ⟨v3, rfl, ho3, hb3⟩
              obtain ⟨ao, cap, rfl, _, _, _⟩ := ho3.slice
              have hr3 := hr.later hb3
              have K3 := hkK _ hb3
              go_wp2
              go_roundw
              case rel => exact ⟨j + 1, nv, kv, _, _, _, ns, ks, sl, by omega, rfl, rfl, rfl, by go_num, by rw [HT.out, HF.out]; exact hr3.mono (Nat.le_succ _), K3⟩
              case measure => simp [intOf]; omega
          · have hq' : ((((⟨a.toArray⟩ : ByteArray)[0]'hbk).toNat : Int) == 35) = false := beq_eq_false_iff_ne.2 hq
            have hq1 : a.head? ≠ some 35 := by rw [head_eq hpos]; intro e; injection e with e; rw [e] at hq; exact hq rfl
            have hli := refLine_any a wr (by omega)
            obtain ⟨hf1, hf2⟩ := lineS_fit a
            have hnc := hr.nc
            have hlc := hr.lc
            have huc := hr.uc
            have hyc := hr.yc
            rw [List.length_map] at huc hyc
            by_cases hE : lineE a = 0
            · have HS : Hid (stepL st (j + 1) a = ⟨st.k, st.out ++ [setK (lineS a) (st.k (mname (lineS a)))], st.bad⟩) := step_good hs0 hq1 hE
              rw [hE] at hli
              generalize stepL st (j + 1) a = st3 at *
              generalize lineS a = X at *
              clear hs0 hq hq1 hE
              have hgt := fun (W : World) (xa : Option Addr) (cp : Nat) (h : Ps W xa X.ls.length X.ls) => refGet_any xa X.ls.length cp X.ls nm W (by omega) h
              have hmn : Hid (fGet X.ls nm = mname X) := rfl
              generalize fGet X.ls nm = mn at *
              go_wp2_with fail
              refine hli.mono ?_
              rintro e w3 ⟨v3, rfl, ho3, hb3⟩
              have hl3 := fun b e => World.ownsRow.lt ho3 b e
              obtain ⟨la, lc, rfl, hpl⟩ := ho3.fitN
              have hz4 := bal (Below.refl _ w3) (.cells #[.slice la X.ls.length lc, .bool X.ov, .int .i64 X.n, .int .i64 X.t, .bool X.has, .int .i64 X.kind] 34)
              have hr4 := (hr.later hb3).later hz4
              have hx4 := BoxX.new w3 (.slice la X.ls.length lc) X
              have hpl4 := hpl.later hz4
              go_wp2_with fail
              generalize hw4 : w3.alloc (.cells #[.slice la X.ls.length lc, .bool X.ov, .int .i64 X.n, .int .i64 X.t, .bool X.has, .int .i64 X.kind] 34) = w4 at *
              have hz3 : w3.heap.size < w4.heap.size := hx4.lt
              clear hw4
              refine (hgt _ _ _ hpl4).mono ?_
              rintro e w5 ⟨rfl, rfl⟩
              have hkg := kget_any w4 wL.heap.size w.heap.size nv kv ns ks mn hr4.kp hr4.nk (by omega)
              have HLK : Hid (lk ns ks mn = st.k (mname X)) := by show _ = _; rw [hr4.lk mn, hmn.out]
              generalize lk ns ks mn = kd at *
              go_wp2_with fail
              refine hkg.mono ?_
              rintro e w5 ⟨rfl, rfl⟩
              obtain ⟨c0, c1, c2, c3, c4, c5, f0, f1, f2, f3, f4, f5⟩ := hx4
              go_upto_region 19 with fail
              have hx5 : BoxX (w4.setCell ⟨w3.heap.size, 5, none⟩ (.int .i64 kd)) w3.heap.size (.slice la X.ls.length lc) (setK X kd) := by
                refine ⟨?_, ?_, ?_, ?_, ?_, ?_, by simpa using f0, by simpa using f1, by simpa using f2, by simpa using f3, by simpa using f4, by simpa using f5⟩
                · rw [World.cell?_setCell_other _ _ _ _ (by intro e; cases e)]; exact c0
                · rw [World.cell?_setCell_other _ _ _ _ (by intro e; cases e)]; exact c1
                · rw [World.cell?_setCell_other _ _ _ _ (by intro e; cases e)]; exact c2
                · rw [World.cell?_setCell_other _ _ _ _ (by intro e; cases e)]; exact c3
                · rw [World.cell?_setCell_other _ _ _ _ (by intro e; cases e)]; exact c4
                · exact World.cell?_setCell_same' _ _ _ (by rw [c5]; rfl)
              have hB5 : Below w3.heap.size w3 (w4.setCell ⟨w3.heap.size, 5, none⟩ (.int .i64 kd)) := hz4.setCell (p := ⟨w3.heap.size, 5, none⟩) (Nat.le_refl _) _
              have hr5 := (hr.later hb3).later hB5
              have hpl5 := hpl.later hB5
              have B5 := Below.chain hb3 hB5
              clear c0 c1 c2 c3 c4 c5 f0 f1 f2 f3 f4 f5 hr4 hpl4 hz4 hkg hgt
              generalize hw5 : w4.setCell ⟨w3.heap.size, 5, none⟩ (.int .i64 kd) = w5 at *
              clear hw5 hB5
              have hxs : w3.heap.size < w5.heap.size := hx5.lt
              obtain ⟨Y, hY⟩ : ∃ Y, Y = setK X kd := ⟨_, rfl⟩
              rw [← hY] at hx5
              have HY : Hid (Y = setK X kd) := hY
              have HYL : Hid (Y.ls = X.ls) := by show _ = _; rw [hY]; rfl
              clear hY
              have hz6 := bal (Below.refl _ w5) (.cells #[.slice la X.ls.length lc, .bool Y.ov, .int .i64 Y.n, .int .i64 Y.t, .bool Y.has, .int .i64 Y.kind] 34)
              have hr6 := hr5.later hz6
              have hpl6 := hpl5.later hz6
              have B6 := Below.chain B5 hz6
              have hnx := BoxX.new w5 (.slice la X.ls.length lc) Y
              have hs6 := hz6.size
              obtain ⟨c0, c1, c2, c3, c4, c5, f0, f1, f2, f3, f4, f5⟩ := hx5
              go_wp2_with (at_builtin; go_must (refine wpList_append_own_at _ rfl _ _ 23 rfl 0 34 i9 (.agg #[.slice none 0 0, .bool false, .int .i64 0, .int .i64 0, .bool false, .int .i64 0]) 6 64 Tryz.underlying23 hi9 hy0 hy1 hy2 zero34 (by decide) _ _ _ rfl hr6.ox.row ⟨w5.heap.size, 0, none⟩ 1 1 (six (.slice la X.ls.length lc, Y)) ?hx rfl (six_cells hnx) (fun u hu => by simp [six] at hu; rcases hu with rfl | rfl | rfl | rfl | rfl | rfl <;> rfl) ?h63 ?hby (Nat.zero_le _) ?_))
              case hx => simp [Act.eval]
              case h63 => unfold maxLen; omega
              case hby => omega
              intro v8 w8 ho8 hg8 _ hl8
              have hr8 := hr6.addX (x := Y) ho8 hg8 (by simpa using hl8) ⟨la, lc, by rw [HYL.out], by rw [HYL.out]; exact hpl6⟩ (fun b e => by
                obtain ⟨y1, y2⟩ := hl3 b e
                obtain ⟨x1, x2, x3, x4, x5⟩ := hr.fresh y1
                exact ⟨by omega, by omega, x1, x2, x3, x4, x5⟩)
              have K8 := (hkK _ B6).trans (Keep.grown hg8 (fun b hb => Nat.lt_of_lt_of_le hb.1 hr6.bw) (fun b e hb => by have := hr6.xb b e; omega))
              go_wp2
              go_roundw
              case rel => exact ⟨j + 1, nv, kv, _, _, _, ns, ks, _, by omega, rfl, rfl, rfl, by go_num, by rw [HT.out, HS.out, ← HLK.out, ← HY.out]; exact hr8, K8⟩
              case measure => simp [intOf]; omega
            · have HS : Hid (stepL st (j + 1) a = ⟨st.k, st.out, st.bad ++ [(((j + 1 : Nat) : Int), lineE a)]⟩) := step_bad hs0 hq1 hE
              have hE' : (lineE a != 0) = true := by rw [bne_iff_ne]; exact hE
              generalize stepL st (j + 1) a = st3 at *
              generalize lineS a = X at *
              generalize lineE a = E at *
              clear hs0 hq hq1 hE
              obtain ⟨US, hUS⟩ : ∃ t, t = st.bad.map (·.1) := ⟨_, rfl⟩
              obtain ⟨YS, hYS⟩ : ∃ t, t = st.bad.map (·.2) := ⟨_, rfl⟩
              rw [← hUS, ← hYS] at hr
              have HUS : Hid _ := hUS
              have HYS : Hid _ := hYS
              clear hUS hYS
              have huc := hr.uc
              have hyc := hr.yc
              go_wp2_with fail
              refine hli.mono ?_
              rintro e w3 ⟨v3, rfl, ho3, hb3⟩
              obtain ⟨la, lc, rfl, hpl⟩ := ho3.fitN
              have hb4 := bal hb3 (.cells #[.slice la X.ls.length lc, .bool X.ov, .int .i64 X.n, .int .i64 X.t, .bool X.has, .int .i64 X.kind] 34)
              have hz5 := bal (Below.refl _ (w3.alloc (.cells #[.slice la X.ls.length lc, .bool X.ov, .int .i64 X.n, .int .i64 X.t, .bool X.has, .int .i64 X.kind] 34))) (.cells #[.int .i64 ((j : Int) + 1)] 3)
              have hr5 := (hr.later hb4).later hz5
              have B5 := Below.chain hb4 hz5
              go_wp2_with (at_builtin; go_must (refine wpList_append_own_at _ rfl _ _ 27 rfl wL.heap.size 3 i3 (.int .i64 0) 1 8 Tryz.underlying27 hi3 hz30 hz31 hz32 rfl (by decide) _ _ _ rfl hr5.ou ⟨(w3.alloc (.cells #[.slice la X.ls.length lc, .bool X.ov, .int .i64 X.n, .int .i64 X.t, .bool X.has, .int .i64 X.kind] 34)).heap.size, 0, none⟩ 1 1 [iv ((j : Int) + 1)] ?hx rfl (cell_one_new _ _ _) (fun u hu => by cases hu with | head => rfl | tail _ h => cases h) ?h63 ?hby ?hbs ?_))
              case hx => simp [Act.eval]
              case h63 => unfold maxLen; omega
              case hby => omega
              case hbs => exact hr5.bw
              intro v6 w6 ho6 hg6 _ hl6
              have hr6 := hr5.addU ho6 hg6 (by simpa using hl6)
              have K6 := (hkK _ B5).trans (Keep.grown hg6 (fun b hb => Nat.lt_of_lt_of_le hb.1 hr5.bw) (fun b e hb => by have := (World.ownsRow.lt hr5.ou b e).1; omega))
              have hz7 := bal (Below.refl _ w6) (.cells #[.int .i64 E] 3)
              have hr7 := hr6.later hz7
              have K7 := K6.trans (Keep.of hz7 (fun b hb => Nat.lt_of_lt_of_le hb.1 hr6.bw))
              go_wp2_with (at_builtin; go_must (refine wpList_append_own_at _ rfl _ _ 27 rfl wL.heap.size 3 i3 (.int .i64 0) 1 8 Tryz.underlying27 hi3 hz30 hz31 hz32 rfl (by decide) _ _ _ rfl hr7.oy ⟨w6.heap.size, 0, none⟩ 1 1 [iv E] ?hx rfl (cell_one_new _ _ _) (fun u hu => by cases hu with | head => rfl | tail _ h => cases h) ?h63 ?hby ?hbs ?_))
              case hx => simp [Act.eval]
              case h63 => unfold maxLen; omega
              case hby => omega
              case hbs => exact hr7.bw
              intro v8 w8 ho8 hg8 _ hl8
              have hr8 := hr7.addY (by omega) ho8 hg8 (by simpa using hl8)
              have K8 := K7.trans (Keep.grown hg8 (fun b hb => Nat.lt_of_lt_of_le hb.1 hr7.bw) (fun b e hb => by have := (World.ownsRow.lt hr7.oy b e).1; omega))
              go_wp2
              go_roundw
              case rel => exact ⟨j + 1, nv, kv, _, _, _, ns, ks, sl, by omega, rfl, rfl, rfl, by go_num, by rw [HT.out, HS.out, List.map_append, List.map_append, ← HUS.out, ← HYS.out]; exact hr8, K8⟩
              case measure => simp [intOf]; omega
      · have e1 : j = L.length := by omega
        subst e1
        rw [List.take_length] at hr
        rw [← HB.out] at hr
        have hol : Hid _ := hr.ol
        have o1 := hr.ox
        have o2 := hr.ou
        have o3 := hr.oy
        have hB := hBk _ hk
        have hsz := BL.size
        clear hr HB
        go_wp2
        refine bodyPost_ret (v := .tuple #[ov, uv, yv]) (by simp [results, Tryz.results11, go_sem]) rfl ?_
        exact ⟨_, _, _, sl, rfl, o1, hol.out, o2.base hsz, o3.base hsz, hB⟩
end Go.Proofs.YtcbjhfnlhpallaaGreatDoor
