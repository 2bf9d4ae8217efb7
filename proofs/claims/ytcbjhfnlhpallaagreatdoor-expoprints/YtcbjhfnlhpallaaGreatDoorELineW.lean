/- kindOf; Line: for every line. -/
import Derived.Test.YtcbjhfnlhpallaaGreatDoorESmall
import Derived.Test.YtcbjhfnlhpallaaGreatDoorEWords
namespace Go.Proofs.YtcbjhfnlhpallaaGreatDoor
open Go.RowKit

structure BoxX (w : World) (b : Nat) (lab : Value) (x : Scr) : Prop where
  c0 : w.cell? ⟨b, 0, none⟩ = some lab
  c1 : w.cell? ⟨b, 1, none⟩ = some (.bool x.ov)
  c2 : w.cell? ⟨b, 2, none⟩ = some (.int .i64 x.n)
  c3 : w.cell? ⟨b, 3, none⟩ = some (.int .i64 x.t)
  c4 : w.cell? ⟨b, 4, none⟩ = some (.bool x.has)
  c5 : w.cell? ⟨b, 5, none⟩ = some (.int .i64 x.kind)
  f0 : w.frozen? ⟨b, 0, none⟩ = false
  f1 : w.frozen? ⟨b, 1, none⟩ = false
  f2 : w.frozen? ⟨b, 2, none⟩ = false
  f3 : w.frozen? ⟨b, 3, none⟩ = false
  f4 : w.frozen? ⟨b, 4, none⟩ = false
  f5 : w.frozen? ⟨b, 5, none⟩ = false
theorem BoxX.new (w : World) (lab : Value) (x : Scr) : BoxX (w.alloc (.cells #[lab, .bool x.ov, .int .i64 x.n, .int .i64 x.t, .bool x.has, .int .i64 x.kind] 34)) w.heap.size lab x := by
  constructor <;> simp [go_sem]
theorem BoxX.kept {w w' : World} {row : Option Nat} {b : Nat} {lab : Value} {x : Scr} (h : BoxX w b lab x) (hg : w.grownBy w' row) (hne : some b ≠ row) : BoxX w' b lab x := by
  have hl : b < w.heap.size := World.block_lt_of_cell? _ _ h.c0
  exact ⟨grown_cell hg h.c0 hne, grown_cell hg h.c1 hne, grown_cell hg h.c2 hne, grown_cell hg h.c3 hne, grown_cell hg h.c4 hne, grown_cell hg h.c5 hne, grown_frozen hg hl h.f0 hne, grown_frozen hg hl h.f1 hne, grown_frozen hg hl h.f2 hne, grown_frozen hg hl h.f3 hne, grown_frozen hg hl h.f4 hne, grown_frozen hg hl h.f5 hne⟩
theorem BoxX.later {w w' : World} {b : Nat} {lab : Value} {x : Scr} (h : BoxX w b lab x) (hb : Below w.heap.size w w') : BoxX w' b lab x := h.kept (grown_below hb none) (by simp)
theorem BoxX.lt {w : World} {b : Nat} {lab : Value} {x : Scr} (h : BoxX w b lab x) : b < w.heap.size := World.block_lt_of_cell? _ _ h.c0
abbrev set6 (w : World) (b : Nat) (v0 v1 v2 v3 v4 v5 : Value) : World := (((((w.setCell ⟨b, 0, none⟩ v0).setCell ⟨b, 1, none⟩ v1).setCell ⟨b, 2, none⟩ v2).setCell ⟨b, 3, none⟩ v3).setCell ⟨b, 4, none⟩ v4).setCell ⟨b, 5, none⟩ v5
theorem grown6 (w : World) (b : Nat) (v0 v1 v2 v3 v4 v5 : Value) : w.grownBy (set6 w b v0 v1 v2 v3 v4 v5) (some b) :=
  (((((grown_set _ _ _ _).trans (grown_set _ _ _ _)).trans (grown_set _ _ _ _)).trans (grown_set _ _ _ _)).trans (grown_set _ _ _ _)).trans (grown_set _ _ _ _)
theorem below6 {a w : World} {b : Nat} (h : Below a.heap.size a w) (hb : a.heap.size ≤ b) (v0 v1 v2 v3 v4 v5 : Value) : Below a.heap.size a (set6 w b v0 v1 v2 v3 v4 v5) :=
  (((((h.setCell (p := ⟨b, 0, none⟩) hb v0).setCell (p := ⟨b, 1, none⟩) hb v1).setCell (p := ⟨b, 2, none⟩) hb v2).setCell (p := ⟨b, 3, none⟩) hb v3).setCell (p := ⟨b, 4, none⟩) hb v4).setCell (p := ⟨b, 5, none⟩) hb v5
theorem Own.kept {w w' : World} {row : Option Nat} {base : Nat} {v : Value} {l : List Pr} (h : Own w base v l) (hg : w.grownBy w' row) (hne : ∀ b, v.ownBlock = some b → some b ≠ row) : Own w' base v l := by
  refine World.ownsRow.kept h hg ?_
  cases e : v.ownBlock with
  | none => exact Or.inl rfl
  | some b => exact Or.inr (hne b e)

theorem cell_later' {w w' : World} {p : Addr} {v : Value} (h : w.cell? p = some v) (hb : Below w.heap.size w w') : w'.cell? p = some v := (hb.cell (World.block_lt_of_cell? _ _ h)).trans h

/-! ### kindOf -/
theorem kOf_cases (s : Str) : (s = kwd 0 ∧ kOf s = some 0) ∨ (s ≠ kwd 0 ∧ s = kwd 1 ∧ kOf s = some 1) ∨ (s ≠ kwd 0 ∧ s ≠ kwd 1 ∧ s = kwd 2 ∧ kOf s = some 2) ∨ (s ≠ kwd 0 ∧ s ≠ kwd 1 ∧ s ≠ kwd 2 ∧ kOf s = none) := by
  unfold kOf
  by_cases h0 : s = kwd 0
  · exact Or.inl ⟨h0, by rw [if_pos h0]⟩
  · by_cases h1 : s = kwd 1
    · exact Or.inr (Or.inl ⟨h0, h1, by rw [if_neg h0, if_pos h1]⟩)
    · by_cases h2 : s = kwd 2
      · exact Or.inr (Or.inr (Or.inl ⟨h0, h1, h2, by rw [if_neg h0, if_neg h1, if_pos h2]⟩))
      · exact Or.inr (Or.inr (Or.inr ⟨h0, h1, h2, by rw [if_neg h0, if_neg h1, if_neg h2]⟩))
def bef (s : Str) (j : Nat) : Prop := ∀ i : Nat, i < j → s ≠ kwd (i : Int)
theorem three0 (w : World) : (Instr.index 61 (.agg #[.int .i64 0, .int .i64 1, .int .i64 2]) (.int .i64 0)).run Tryz.prog w = .ok (.int .i64 0) w := by kernel_rfl
theorem three1 (w : World) : (Instr.index 61 (.agg #[.int .i64 0, .int .i64 1, .int .i64 2]) (.int .i64 1)).run Tryz.prog w = .ok (.int .i64 1) w := by kernel_rfl
theorem three2 (w : World) : (Instr.index 61 (.agg #[.int .i64 0, .int .i64 1, .int .i64 2]) (.int .i64 2)).run Tryz.prog w = .ok (.int .i64 2) w := by kernel_rfl
theorem kOf_hit {s : Str} {j : Nat} (hj : j < 3) (hb : bef s j) (h : kwd (j : Int) = s) : (kOf s).getD 0 = (j : Int) ∧ (kOf s).isSome = true := by
  have : j = 0 ∨ j = 1 ∨ j = 2 := by omega
  rcases this with rfl | rfl | rfl
  · rcases kOf_cases s with h' | h' | h' | h'
    · rw [h'.2]; exact ⟨rfl, rfl⟩
    · exact absurd h.symm h'.1
    · exact absurd h.symm h'.1
    · exact absurd h.symm h'.1
  · have h0 := hb 0 (by omega)
    rcases kOf_cases s with h' | h' | h' | h'
    · exact absurd h'.1 h0
    · rw [h'.2.2]; exact ⟨rfl, rfl⟩
    · exact absurd h.symm h'.2.1
    · exact absurd h.symm h'.2.1
  · have h0 := hb 0 (by omega)
    have h1 := hb 1 (by omega)
    rcases kOf_cases s with h' | h' | h' | h'
    · exact absurd h'.1 h0
    · exact absurd h'.2.1 h1
    · rw [h'.2.2.2]; exact ⟨rfl, rfl⟩
    · exact absurd h.symm h'.2.2.1
theorem kOf_miss {s : Str} (hb : bef s 3) : (kOf s).getD 0 = 0 ∧ (kOf s).isSome = false := by
  have h0 := hb 0 (by omega)
  have h1 := hb 1 (by omega)
  have h2 := hb 2 (by omega)
  rcases kOf_cases s with h' | h' | h' | h'
  · exact absurd h'.1 h0
  · exact absurd h'.2.1 h1
  · exact absurd h'.2.2.1 h2
  · rw [h'.2.2.2]; exact ⟨rfl, rfl⟩
set_option maxHeartbeats 2000000 in
theorem kindOf_any (s : Str) (w : World) : Calls Tryz.prog 96 #[tx s] w fun e w' => e = .returned (.tuple #[.int .i64 ((kOf s).getD 0), .bool (kOf s).isSome]) ∧ w = w' := by
  have HH : Hid (∀ j : Nat, j < 3 → bef s j → kwd (j : Int) = s → (kOf s).getD 0 = (j : Int) ∧ (kOf s).isSome = true) := fun j h1 h2 h3 => kOf_hit h1 h2 h3
  have HM : Hid (bef s 3 → (kOf s).getD 0 = 0 ∧ (kOf s).isSome = false) := kOf_miss
  generalize (kOf s).getD 0 = x at *
  generalize (kOf s).isSome = y at *
  have hix : ∀ (j : Nat), j < 3 → ∀ W, (Instr.index 61 (.agg #[.int .i64 0, .int .i64 1, .int .i64 2]) (.int .i64 (j : Int))).run Tryz.prog W = .ok (.int .i64 (j : Int)) W := by
    intro j hj W
    have : j = 0 ∨ j = 1 ∨ j = 2 := by omega
    rcases this with rfl | rfl | rfl
    · exact three0 W
    · exact three1 W
    · exact three2 W
  go_enter Tryz.func96, Tryz.ntmps96
  go_wp2
  go_loop [7] (fun i => ∃ j : Nat, j ≤ 3 ∧ i = .int .i64 j ∧ Hid (bef s j)) (fun i => 3 - (intOf i).toNat)
  case atStart => exact ⟨0, by omega, rfl, fun i hi => by omega⟩
  case round =>
    obtain ⟨j, hj, rfl, HB⟩ := hrel
    by_cases hlt : j < 3
    · have hix' := hix j hlt
      have hkw := kindWord_any (j : Int)
      by_cases he : kwd (j : Int) = s
      · obtain ⟨e1, e2⟩ := HH.out j hlt HB.out he
        have HX : Hid (x = (j : Int)) := e1
        have HY : Hid (y = true) := e2
        have he' : (s == s) = true := by simp
        rw [he] at hkw
        clear he HH HM hix e1 e2
        go_wp2_with (go_at_call 46; refine (hkw _).mono ?_; rintro e w' ⟨rfl, rfl⟩)
        go_ret2
        exact ⟨by rw [HX.out, HY.out]; rfl, rfl⟩
      · have he' : (kwd (j : Int) == s) = false := beq_eq_false_iff_ne.2 he
        have HB' : Hid (bef s (j + 1)) := fun i hi e => by
          rcases Nat.lt_or_ge i j with h | h
          · exact HB.out i h e
          · obtain rfl : i = j := by omega
            exact he e.symm
        clear he HH HM hix HB
        generalize kwd (j : Int) = t at *
        go_wp2_with (go_at_call 46; refine (hkw _).mono ?_; rintro e w' ⟨rfl, rfl⟩)
        go_round
        case rel => exact ⟨j + 1, by omega, by go_num, HB'⟩
        case measure => simp [intOf]; omega
    · obtain rfl : j = 3 := by omega
      obtain ⟨e1, e2⟩ := HM.out HB.out
      have HX : Hid (x = 0) := e1
      have HY : Hid (y = false) := e2
      clear e1 e2 HH HM hix
      go_wp2
      go_ret2
      exact ⟨by rw [HX.out, HY.out]; rfl, rfl⟩

/-! ### Line -/
theorem wE_len {l : List Str} (h2 : l.length ≠ 2) (h3 : l.length ≠ 3) : wE l = 12 := by
  match l, h2, h3 with
  | [], _, _ => rfl
  | [_], _, _ => rfl
  | [_, _], h, _ => exact absurd rfl h
  | [_, _, _], _, h => exact absurd rfl h
  | _ :: _ :: _ :: _ :: _, _, _ => rfl
theorem two_of {l : List Str} (h : l.length = 2) : ∃ a b, l = [a, b] := by
  match l, h with
  | [a, b], _ => exact ⟨a, b, rfl⟩
theorem three_of {l : List Str} (h : l.length = 3) : ∃ a b c, l = [a, b, c] := by
  match l, h with
  | [a, b, c], _ => exact ⟨a, b, c, rfl⟩
def lv (v : Value) (x : Scr) : Value := .agg #[v, .bool x.ov, .int .i64 x.n, .int .i64 x.t, .bool x.has, .int .i64 x.kind]
theorem parse_fit (s : Str) (h : s.length ≤ 100000) : Fit (parseL s) := by
  unfold parseL
  split
  · exact make_fit (rdAll_fit h)
  · exact fun p hp => by cases hp
theorem parse_count (s : Str) : (parseL s).length ≤ 1000000 := by
  unfold parseL
  split
  · rename_i h
    unfold okParse at h
    rw [Bool.and_eq_true, decide_eq_true_iff] at h
    have := ((is_iff _).1 (make_is h.1)).1
    omega
  · simp
set_option maxRecDepth 20000 in
set_option maxHeartbeats 8000000 in
theorem line_any (s : Str) (w : World) (hs : s.length ≤ 100000) (he : Ev w) :
    Calls Tryz.prog 12 #[tx s] w fun e w' => ∃ v, e = .returned (.tuple #[.agg #[v, .bool (lineS s).ov, .int .i64 (lineS s).n, .int .i64 (lineS s).t, .bool (lineS s).has, .int .i64 (lineS s).kind], .int .i64 (lineE s)]) ∧ Own w' w.heap.size v (lineS s).ls ∧ Below w.heap.size w w' := by
  have hb0 : Below w.heap.size w (w.alloc (.cells #[.slice none 0 0, .bool false, .int .i64 0, .int .i64 0, .bool false, .int .i64 0] 34)) := bal (Below.refl _ _) _
  have hx : BoxX (w.alloc (.cells #[.slice none 0 0, .bool false, .int .i64 0, .int .i64 0, .bool false, .int .i64 0] 34)) w.heap.size (.slice none 0 0) scr0 := BoxX.new w _ scr0
  by_cases hl : 300 < s.length
  · have HE : Hid (lineE s = 11) := by show _ = _; unfold lineE; rw [if_pos hl]
    have HS : Hid (lineS s = scr0) := by show _ = _; unfold lineS; rw [HE.out]; rfl
    have hl' : (300 : Int) < s.length := by omega
    generalize lineE s = E at *
    generalize lineS s = X at *
    clear hl
    go_enter Tryz.func12, Tryz.ntmps12
    go_wp2
    exact bodyPost_ret (v := .tuple #[.agg #[.slice none 0 0, .bool false, .int .i64 0, .int .i64 0, .bool false, .int .i64 0], .int .i64 11]) (by simp [results, Tryz.results12, go_sem]) rfl ⟨.slice none 0 0, by rw [HE.out, HS.out]; rfl, by rw [HS.out]; exact Own.none _ _, hb0⟩
  · have HE0 : Hid (lineE s = wE (wd s)) := by show _ = _; unfold lineE; rw [if_neg hl]
    have HS0 : Hid (lineS s = if lineE s = 0 then wS (wd s) else scr0) := rfl
    have hl' : ¬ (300 : Int) < s.length := by omega
    have hwd := words_any s (w.alloc (.cells #[.slice none 0 0, .bool false, .int .i64 0, .int .i64 0, .bool false, .int .i64 0] 34)) (by omega)
    have hsub : ∀ a ∈ wd s, a.length ≤ s.length := fun a ha => wd_sub ha
    generalize lineE s = E at *
    generalize lineS s = X at *
    generalize wd s = W at *
    clear hl
    by_cases h2 : W.length = 2
    · obtain ⟨a, b, rfl⟩ := two_of h2
      have ha := hsub a (by simp)
      have hb := hsub b (by simp)
      clear h2 hsub
      have hps := fun W (h : Mx W) => parse_any a W (by omega) h
      have hpf := parse_fit a (by omega)
      have hpc := parse_count a
      have hhm := fun (W : World) (xa : Option Addr) (cp : Nat) (h : Ps W xa (parseL a).length (parseL a)) => hasMetric_any xa (parseL a).length cp (parseL a) W hpc hpf h
      have hnp := fun W => Fx.parse_any b W (by omega)
      have HW : Hid (wE [a, b] = if fSet a = true then Fx.pe (Fx.fParse b) else 30) := rfl
      have HX : Hid (wS [a, b] = ⟨parseL a, Fx.po (Fx.fParse b), Fx.pn (Fx.fParse b), 0, false, 0⟩) := rfl
      have HF : Hid (fSet a = (okParse a && fName (fGet (parseL a) nm))) := rfl
      have HP : Hid (parseE a = if okParse a = true then 0 else 30) := rfl
      generalize wE [a, b] = E' at *
      generalize wS [a, b] = X' at *
      generalize fSet a = fs at *
      generalize okParse a = ok at *
      generalize parseE a = pe at *
      generalize parseL a = L at *
      generalize fName (fGet L nm) = hm at *
      generalize Fx.fParse b = N at *
      cases ok with
      | false =>
        have HPE : pe = 30 := HP.out
        subst HPE
        have HE : Hid (E = 30) := by show _ = _; rw [HE0.out, HW.out, HF.out]; simp
        have HS : Hid (X = scr0) := by show _ = _; rw [HS0.out, HE.out]; rfl
        clear HE0 HS0 HW HX HF HP hhm hnp
        go_enter Tryz.func12, Tryz.ntmps12
        go_wp2_with fail
        generalize w.alloc (.cells _ 34) = w0 at *
        refine hwd.mono ?_
        rintro e w1 ⟨v1, rfl, ho1, hb1⟩
        obtain ⟨ao, cap, rfl, hss, _, _⟩ := ho1.slice
        obtain ⟨_, hss⟩ := hss
        obtain ⟨bk, off, rfl, hcs⟩ := hss (by simp)
        have k0 : w1.cell? ⟨bk, off, none⟩ = some (tx a) := hcs 0 (by simp)
        have k1 : w1.cell? ⟨bk, off + 1, none⟩ = some (tx b) := hcs 1 (by simp)
        clear hcs hss
        have B1 := Below.chain hb0 hb1
        have hx1 := hx.later hb1
        clear hx ho1
        go_wp2_with fail
        refine (hps _ (he.later B1).mx).mono ?_
        rintro e w2 ⟨v2, rfl, ho2, hb2⟩
        have B2 := Below.chain B1 hb2
        have hx2 := hx1.later hb2
        have m1 := (hb2.cell (p := ⟨bk, off + 1, none⟩) (World.block_lt_of_cell? _ _ k1)).trans k1
        obtain ⟨c0, c1, c2, c3, c4, c5, f0, f1, f2, f3, f4, f5⟩ := hx2
        obtain ⟨la, lc, rfl, hpl⟩ := ho2.fitN
        go_wp2
        exact bodyPost_ret (v := .tuple #[.agg #[.slice none 0 0, .bool false, .int .i64 0, .int .i64 0, .bool false, .int .i64 0], .int .i64 30]) (by simp [results, Tryz.results12, go_sem, c0, c1, c2, c3, c4, c5]) rfl ⟨.slice none 0 0, by rw [HE.out, HS.out]; rfl, by rw [HS.out]; exact Own.none _ _, below6 B2 (Nat.le_refl _) _ _ _ _ _ _⟩
      | true =>
        have HPE : pe = 0 := HP.out
        subst HPE
        cases hm with
        | false =>
          have HE : Hid (E = 30) := by show _ = _; rw [HE0.out, HW.out, HF.out]; simp
          have HS : Hid (X = scr0) := by show _ = _; rw [HS0.out, HE.out]; rfl
          clear HE0 HS0 HW HX HF HP hnp
          go_enter Tryz.func12, Tryz.ntmps12
          go_wp2_with fail
          generalize w.alloc (.cells _ 34) = w0 at *
          refine hwd.mono ?_
          rintro e w1 ⟨v1, rfl, ho1, hb1⟩
          obtain ⟨ao, cap, rfl, hss, _, _⟩ := ho1.slice
          obtain ⟨_, hss⟩ := hss
          obtain ⟨bk, off, rfl, hcs⟩ := hss (by simp)
          have k0 : w1.cell? ⟨bk, off, none⟩ = some (tx a) := hcs 0 (by simp)
          have k1 : w1.cell? ⟨bk, off + 1, none⟩ = some (tx b) := hcs 1 (by simp)
          clear hcs hss
          have B1 := Below.chain hb0 hb1
          have hx1 := hx.later hb1
          clear hx ho1
          go_wp2_with fail
          refine (hps _ (he.later B1).mx).mono ?_
          rintro e w2 ⟨v2, rfl, ho2, hb2⟩
          have B2 := Below.chain B1 hb2
          have hx2 := hx1.later hb2
          have m1 := (hb2.cell (p := ⟨bk, off + 1, none⟩) (World.block_lt_of_cell? _ _ k1)).trans k1
          obtain ⟨la, lc, rfl, hpl⟩ := ho2.fitN
          go_wp2_with fail
          refine (hhm _ _ _ hpl).mono ?_
          rintro e w3 ⟨rfl, hb3⟩
          have B3 := Below.chain B2 hb3
          have hx3 := hx2.later hb3
          have ho3 := ho2.later hb3
          have q1 := (hb3.cell (p := ⟨bk, off + 1, none⟩) (World.block_lt_of_cell? _ _ m1)).trans m1
          obtain ⟨c0, c1, c2, c3, c4, c5, f0, f1, f2, f3, f4, f5⟩ := hx3
          go_wp2
          exact bodyPost_ret (v := .tuple #[.agg #[.slice none 0 0, .bool false, .int .i64 0, .int .i64 0, .bool false, .int .i64 0], .int .i64 30]) (by simp [results, Tryz.results12, go_sem, c0, c1, c2, c3, c4, c5]) rfl ⟨.slice none 0 0, by rw [HE.out, HS.out]; rfl, by rw [HS.out]; exact Own.none _ _, below6 B3 (Nat.le_refl _) _ _ _ _ _ _⟩
        | true =>
          cases N with
          | none =>
            have HE : Hid (E = 20) := by show _ = _; rw [HE0.out, HW.out, HF.out]; simp [Fx.pe]
            have HS : Hid (X = scr0) := by show _ = _; rw [HS0.out, HE.out]; rfl
            clear HE0 HS0 HW HX HF HP
            simp only [Fx.po, Fx.pn, Fx.pe] at hnp
            go_enter Tryz.func12, Tryz.ntmps12
            go_wp2_with fail
            generalize w.alloc (.cells _ 34) = w0 at *
            refine hwd.mono ?_
            rintro e w1 ⟨v1, rfl, ho1, hb1⟩
            obtain ⟨ao, cap, rfl, hss, _, _⟩ := ho1.slice
            obtain ⟨_, hss⟩ := hss
            obtain ⟨bk, off, rfl, hcs⟩ := hss (by simp)
            have k0 : w1.cell? ⟨bk, off, none⟩ = some (tx a) := hcs 0 (by simp)
            have k1 : w1.cell? ⟨bk, off + 1, none⟩ = some (tx b) := hcs 1 (by simp)
            clear hcs hss
            have B1 := Below.chain hb0 hb1
            have hx1 := hx.later hb1
            clear hx ho1
            go_wp2_with fail
            refine (hps _ (he.later B1).mx).mono ?_
            rintro e w2 ⟨v2, rfl, ho2, hb2⟩
            have B2 := Below.chain B1 hb2
            have hx2 := hx1.later hb2
            have m1 := (hb2.cell (p := ⟨bk, off + 1, none⟩) (World.block_lt_of_cell? _ _ k1)).trans k1
            obtain ⟨la, lc, rfl, hpl⟩ := ho2.fitN
            go_wp2_with fail
            refine (hhm _ _ _ hpl).mono ?_
            rintro e w3 ⟨rfl, hb3⟩
            have B3 := Below.chain B2 hb3
            have hx3 := hx2.later hb3
            have ho3 := ho2.later hb3
            have q1 := (hb3.cell (p := ⟨bk, off + 1, none⟩) (World.block_lt_of_cell? _ _ m1)).trans m1
            go_wp2_with fail
            refine (hnp _).mono ?_
            rintro e w4 ⟨rfl, hb4⟩
            have B4 := Below.chain B3 hb4
            have hx4 := hx3.later hb4
            have ho4 := ho3.later hb4
            have hx5 := hx4.later (bal (Below.refl _ w4) (.cells #[.bool false, .int .i64 0] 32))
            have B5 := bal B4 (.cells #[.bool false, .int .i64 0] 32)
            obtain ⟨c0, c1, c2, c3, c4, c5, f0, f1, f2, f3, f4, f5⟩ := hx5
            go_wp2
            exact bodyPost_ret (v := .tuple #[.agg #[.slice none 0 0, .bool false, .int .i64 0, .int .i64 0, .bool false, .int .i64 0], .int .i64 20]) (by simp [results, Tryz.results12, go_sem, c0, c1, c2, c3, c4, c5]) rfl ⟨.slice none 0 0, by rw [HE.out, HS.out]; rfl, by rw [HS.out]; exact Own.none _ _, below6 B5 (Nat.le_refl _) _ _ _ _ _ _⟩
          | some num =>
            simp only [Fx.po, Fx.pn, Fx.pe] at hnp HX
            generalize Fx.ov num = nv at *
            generalize Fx.nn num = nn at *
            have HE : Hid (E = 0) := by show _ = _; rw [HE0.out, HW.out, HF.out]; simp [Fx.pe]
            have HS : Hid (X = ⟨L, nv, nn, 0, false, 0⟩) := by show _ = _; rw [HS0.out, HE.out]; rw [if_pos rfl, HX.out]
            clear HE0 HS0 HW HX HF HP
            go_enter Tryz.func12, Tryz.ntmps12
            go_wp2_with fail
            generalize w.alloc (.cells _ 34) = w0 at *
            refine hwd.mono ?_
            rintro e w1 ⟨v1, rfl, ho1, hb1⟩
            obtain ⟨ao, cap, rfl, hss, _, _⟩ := ho1.slice
            obtain ⟨_, hss⟩ := hss
            obtain ⟨bk, off, rfl, hcs⟩ := hss (by simp)
            have k0 : w1.cell? ⟨bk, off, none⟩ = some (tx a) := hcs 0 (by simp)
            have k1 : w1.cell? ⟨bk, off + 1, none⟩ = some (tx b) := hcs 1 (by simp)
            clear hcs hss
            have B1 := Below.chain hb0 hb1
            have hx1 := hx.later hb1
            clear hx ho1
            go_wp2_with fail
            refine (hps _ (he.later B1).mx).mono ?_
            rintro e w2 ⟨v2, rfl, ho2, hb2⟩
            have B2 := Below.chain B1 hb2
            have hx2 := hx1.later hb2
            have m1 := (hb2.cell (p := ⟨bk, off + 1, none⟩) (World.block_lt_of_cell? _ _ k1)).trans k1
            obtain ⟨la, lc, rfl, hpl⟩ := ho2.fitN
            go_wp2_with fail
            refine (hhm _ _ _ hpl).mono ?_
            rintro e w3 ⟨rfl, hb3⟩
            have B3 := Below.chain B2 hb3
            have hx3 := hx2.later hb3
            have ho3 := ho2.later hb3
            have q1 := (hb3.cell (p := ⟨bk, off + 1, none⟩) (World.block_lt_of_cell? _ _ m1)).trans m1
            go_wp2_with fail
            refine (hnp _).mono ?_
            rintro e w4 ⟨rfl, hb4⟩
            have B4 := Below.chain B3 hb4
            have hx4 := hx3.later hb4
            have ho4 := ho3.later hb4
            have hx5 := hx4.later (bal (Below.refl _ w4) (.cells #[.bool nv, .int .i64 nn] 32))
            have B5 := bal B4 (.cells #[.bool nv, .int .i64 nn] 32)
            have ho5 := ho4.later (bal (Below.refl _ w4) (.cells #[.bool nv, .int .i64 nn] 32))
            obtain ⟨c0, c1, c2, c3, c4, c5, f0, f1, f2, f3, f4, f5⟩ := hx5
            go_wp2
            exact bodyPost_ret (v := .tuple #[.agg #[.slice la L.length lc, .bool nv, .int .i64 nn, .int .i64 0, .bool false, .int .i64 0], .int .i64 0]) (by simp [results, Tryz.results12, go_sem, c0, c1, c2, c3, c4, c5]) rfl ⟨_, by rw [HE.out, HS.out], by rw [HS.out]; exact (ho5.kept (grown6 _ _ _ _ _ _ _ _) (fun b e e2 => by injection e2 with e2; have := (World.ownsRow.lt ho5 b e).1; have := B1.size; have := hx1.lt; omega)).base (Nat.le_trans B1.size (Nat.le_refl _)), below6 B5 (Nat.le_refl _) _ _ _ _ _ _⟩
    · by_cases h3 : W.length = 3
      · obtain ⟨a, b, c, rfl⟩ := three_of h3
        have ha := hsub a (by simp)
        have hb := hsub b (by simp)
        have hc := hsub c (by simp)
        clear h2 h3 hsub
        have hps := fun W (h : Mx W) => parse_any a W (by omega) h
        have hpf := parse_fit a (by omega)
        have hpc := parse_count a
        have hhm := fun (W : World) (xa : Option Addr) (cp : Nat) (h : Ps W xa (parseL a).length (parseL a)) => hasMetric_any xa (parseL a).length cp (parseL a) W hpc hpf h
        have hnp := fun W => Fx.parse_any b W (by omega)
        have htm := fun W h => timeOf_any c W (by omega) h
        have HW : Hid (wE [a, b, c] = if fSet a = true then (if Fx.pe (Fx.fParse b) = 0 then (if (tm c).isSome = true then 0 else 152) else 20) else 30) := rfl
        have HX : Hid (wS [a, b, c] = ⟨parseL a, Fx.po (Fx.fParse b), Fx.pn (Fx.fParse b), (((tm c).getD 0 : Nat) : Int), true, 0⟩) := rfl
        have HF : Hid (fSet a = (okParse a && fName (fGet (parseL a) nm))) := rfl
        have HP : Hid (parseE a = if okParse a = true then 0 else 30) := rfl
        generalize wE [a, b, c] = E' at *
        generalize wS [a, b, c] = X' at *
        generalize fSet a = fs at *
        generalize okParse a = ok at *
        generalize parseE a = pe at *
        generalize parseL a = L at *
        generalize fName (fGet L nm) = hm at *
        generalize Fx.fParse b = N at *
        generalize (((tm c).getD 0 : Nat) : Int) = tv at *
        generalize (tm c).isSome = ts at *
        cases ok with
        | false =>
          have HPE : pe = 30 := HP.out
          subst HPE
          have HE : Hid (E = 30) := by show _ = _; rw [HE0.out, HW.out, HF.out]; simp
          have HS : Hid (X = scr0) := by show _ = _; rw [HS0.out, HE.out]; rfl
          clear HE0 HS0 HW HX HF HP hhm hnp htm
          go_enter Tryz.func12, Tryz.ntmps12
          go_wp2_with fail
          generalize w.alloc (.cells _ 34) = w0 at *
          refine hwd.mono ?_
          rintro e w1 ⟨v1, rfl, ho1, hb1⟩
          obtain ⟨ao, cap, rfl, hss, _, _⟩ := ho1.slice
          obtain ⟨_, hss⟩ := hss
          obtain ⟨bk, off, rfl, hcs⟩ := hss (by simp)
          have k0 : w1.cell? ⟨bk, off, none⟩ = some (tx a) := hcs 0 (by simp)
          have k1 : w1.cell? ⟨bk, off + 1, none⟩ = some (tx b) := hcs 1 (by simp)
          have k2 : w1.cell? ⟨bk, off + 2, none⟩ = some (tx c) := hcs 2 (by simp)
          clear hcs hss
          have B1 := Below.chain hb0 hb1
          have hx1 := hx.later hb1
          clear hx ho1
          go_wp2_with fail
          refine (hps _ (he.later B1).mx).mono ?_
          rintro e w2 ⟨v2, rfl, ho2, hb2⟩
          have B2 := Below.chain B1 hb2
          have hx2 := hx1.later hb2
          have m1 := (hb2.cell (p := ⟨bk, off + 1, none⟩) (World.block_lt_of_cell? _ _ k1)).trans k1
          have m2 := (hb2.cell (p := ⟨bk, off + 2, none⟩) (World.block_lt_of_cell? _ _ k2)).trans k2
          obtain ⟨c0, c1, c2, c3, c4, c5, f0, f1, f2, f3, f4, f5⟩ := hx2
          obtain ⟨la, lc, rfl, hpl⟩ := ho2.fitN
          go_wp2
          exact bodyPost_ret (v := .tuple #[.agg #[.slice none 0 0, .bool false, .int .i64 0, .int .i64 0, .bool false, .int .i64 0], .int .i64 30]) (by simp [results, Tryz.results12, go_sem, c0, c1, c2, c3, c4, c5]) rfl ⟨.slice none 0 0, by rw [HE.out, HS.out]; rfl, by rw [HS.out]; exact Own.none _ _, below6 B2 (Nat.le_refl _) _ _ _ _ _ _⟩
        | true =>
          have HPE : pe = 0 := HP.out
          subst HPE
          cases hm with
          | false =>
            have HE : Hid (E = 30) := by show _ = _; rw [HE0.out, HW.out, HF.out]; simp
            have HS : Hid (X = scr0) := by show _ = _; rw [HS0.out, HE.out]; rfl
            clear HE0 HS0 HW HX HF HP hnp htm
            go_enter Tryz.func12, Tryz.ntmps12
            go_wp2_with fail
            generalize w.alloc (.cells _ 34) = w0 at *
            refine hwd.mono ?_
            rintro e w1 ⟨v1, rfl, ho1, hb1⟩
            obtain ⟨ao, cap, rfl, hss, _, _⟩ := ho1.slice
            obtain ⟨_, hss⟩ := hss
            obtain ⟨bk, off, rfl, hcs⟩ := hss (by simp)
            have k0 : w1.cell? ⟨bk, off, none⟩ = some (tx a) := hcs 0 (by simp)
            have k1 : w1.cell? ⟨bk, off + 1, none⟩ = some (tx b) := hcs 1 (by simp)
            have k2 : w1.cell? ⟨bk, off + 2, none⟩ = some (tx c) := hcs 2 (by simp)
            clear hcs hss
            have B1 := Below.chain hb0 hb1
            have hx1 := hx.later hb1
            clear hx ho1
            go_wp2_with fail
            refine (hps _ (he.later B1).mx).mono ?_
            rintro e w2 ⟨v2, rfl, ho2, hb2⟩
            have B2 := Below.chain B1 hb2
            have hx2 := hx1.later hb2
            have m1 := (hb2.cell (p := ⟨bk, off + 1, none⟩) (World.block_lt_of_cell? _ _ k1)).trans k1
            have m2 := (hb2.cell (p := ⟨bk, off + 2, none⟩) (World.block_lt_of_cell? _ _ k2)).trans k2
            obtain ⟨la, lc, rfl, hpl⟩ := ho2.fitN
            go_wp2_with fail
            refine (hhm _ _ _ hpl).mono ?_
            rintro e w3 ⟨rfl, hb3⟩
            have B3 := Below.chain B2 hb3
            have hx3 := hx2.later hb3
            have ho3 := ho2.later hb3
            have q1 := (hb3.cell (p := ⟨bk, off + 1, none⟩) (World.block_lt_of_cell? _ _ m1)).trans m1
            have q2 := (hb3.cell (p := ⟨bk, off + 2, none⟩) (World.block_lt_of_cell? _ _ m2)).trans m2
            obtain ⟨c0, c1, c2, c3, c4, c5, f0, f1, f2, f3, f4, f5⟩ := hx3
            go_wp2
            exact bodyPost_ret (v := .tuple #[.agg #[.slice none 0 0, .bool false, .int .i64 0, .int .i64 0, .bool false, .int .i64 0], .int .i64 30]) (by simp [results, Tryz.results12, go_sem, c0, c1, c2, c3, c4, c5]) rfl ⟨.slice none 0 0, by rw [HE.out, HS.out]; rfl, by rw [HS.out]; exact Own.none _ _, below6 B3 (Nat.le_refl _) _ _ _ _ _ _⟩
          | true =>
            cases N with
            | none =>
              have HE : Hid (E = 20) := by show _ = _; rw [HE0.out, HW.out, HF.out]; simp [Fx.pe]
              have HS : Hid (X = scr0) := by show _ = _; rw [HS0.out, HE.out]; rfl
              clear HE0 HS0 HW HX HF HP htm
              simp only [Fx.po, Fx.pn, Fx.pe] at hnp
              go_enter Tryz.func12, Tryz.ntmps12
              go_wp2_with fail
              generalize w.alloc (.cells _ 34) = w0 at *
              refine hwd.mono ?_
              rintro e w1 ⟨v1, rfl, ho1, hb1⟩
              obtain ⟨ao, cap, rfl, hss, _, _⟩ := ho1.slice
              obtain ⟨_, hss⟩ := hss
              obtain ⟨bk, off, rfl, hcs⟩ := hss (by simp)
              have k0 : w1.cell? ⟨bk, off, none⟩ = some (tx a) := hcs 0 (by simp)
              have k1 : w1.cell? ⟨bk, off + 1, none⟩ = some (tx b) := hcs 1 (by simp)
              have k2 : w1.cell? ⟨bk, off + 2, none⟩ = some (tx c) := hcs 2 (by simp)
              clear hcs hss
              have B1 := Below.chain hb0 hb1
              have hx1 := hx.later hb1
              clear hx ho1
              go_wp2_with fail
              refine (hps _ (he.later B1).mx).mono ?_
              rintro e w2 ⟨v2, rfl, ho2, hb2⟩
              have B2 := Below.chain B1 hb2
              have hx2 := hx1.later hb2
              have m1 := (hb2.cell (p := ⟨bk, off + 1, none⟩) (World.block_lt_of_cell? _ _ k1)).trans k1
              have m2 := (hb2.cell (p := ⟨bk, off + 2, none⟩) (World.block_lt_of_cell? _ _ k2)).trans k2
              obtain ⟨la, lc, rfl, hpl⟩ := ho2.fitN
              go_wp2_with fail
              refine (hhm _ _ _ hpl).mono ?_
              rintro e w3 ⟨rfl, hb3⟩
              have B3 := Below.chain B2 hb3
              have hx3 := hx2.later hb3
              have ho3 := ho2.later hb3
              have q1 := (hb3.cell (p := ⟨bk, off + 1, none⟩) (World.block_lt_of_cell? _ _ m1)).trans m1
              have q2 := (hb3.cell (p := ⟨bk, off + 2, none⟩) (World.block_lt_of_cell? _ _ m2)).trans m2
              go_wp2_with fail
              refine (hnp _).mono ?_
              rintro e w4 ⟨rfl, hb4⟩
              have B4 := Below.chain B3 hb4
              have hx4 := hx3.later hb4
              have ho4 := ho3.later hb4
              have r2 := (hb4.cell (p := ⟨bk, off + 2, none⟩) (World.block_lt_of_cell? _ _ q2)).trans q2
              have hx5 := hx4.later (bal (Below.refl _ w4) (.cells #[.bool false, .int .i64 0] 32))
              have B5 := bal B4 (.cells #[.bool false, .int .i64 0] 32)
              obtain ⟨c0, c1, c2, c3, c4, c5, f0, f1, f2, f3, f4, f5⟩ := hx5
              go_wp2
              exact bodyPost_ret (v := .tuple #[.agg #[.slice none 0 0, .bool false, .int .i64 0, .int .i64 0, .bool false, .int .i64 0], .int .i64 20]) (by simp [results, Tryz.results12, go_sem, c0, c1, c2, c3, c4, c5]) rfl ⟨.slice none 0 0, by rw [HE.out, HS.out]; rfl, by rw [HS.out]; exact Own.none _ _, below6 B5 (Nat.le_refl _) _ _ _ _ _ _⟩
            | some num =>
              simp only [Fx.po, Fx.pn, Fx.pe] at hnp HX
              generalize Fx.ov num = nv at *
              generalize Fx.nn num = nn at *
              cases ts with
              | false =>
                have HE : Hid (E = 152) := by show _ = _; rw [HE0.out, HW.out, HF.out]; simp [Fx.pe]
                have HS : Hid (X = scr0) := by show _ = _; rw [HS0.out, HE.out]; rfl
                clear HE0 HS0 HW HX HF HP
                go_enter Tryz.func12, Tryz.ntmps12
                go_wp2_with fail
                generalize w.alloc (.cells _ 34) = w0 at *
                refine hwd.mono ?_
                rintro e w1 ⟨v1, rfl, ho1, hb1⟩
                obtain ⟨ao, cap, rfl, hss, _, _⟩ := ho1.slice
                obtain ⟨_, hss⟩ := hss
                obtain ⟨bk, off, rfl, hcs⟩ := hss (by simp)
                have k0 : w1.cell? ⟨bk, off, none⟩ = some (tx a) := hcs 0 (by simp)
                have k1 : w1.cell? ⟨bk, off + 1, none⟩ = some (tx b) := hcs 1 (by simp)
                have k2 : w1.cell? ⟨bk, off + 2, none⟩ = some (tx c) := hcs 2 (by simp)
                clear hcs hss
                have B1 := Below.chain hb0 hb1
                have hx1 := hx.later hb1
                clear hx ho1
                go_wp2_with fail
                refine (hps _ (he.later B1).mx).mono ?_
                rintro e w2 ⟨v2, rfl, ho2, hb2⟩
                have B2 := Below.chain B1 hb2
                have hx2 := hx1.later hb2
                have m1 := (hb2.cell (p := ⟨bk, off + 1, none⟩) (World.block_lt_of_cell? _ _ k1)).trans k1
                have m2 := (hb2.cell (p := ⟨bk, off + 2, none⟩) (World.block_lt_of_cell? _ _ k2)).trans k2
                obtain ⟨la, lc, rfl, hpl⟩ := ho2.fitN
                go_wp2_with fail
                refine (hhm _ _ _ hpl).mono ?_
                rintro e w3 ⟨rfl, hb3⟩
                have B3 := Below.chain B2 hb3
                have hx3 := hx2.later hb3
                have ho3 := ho2.later hb3
                have q1 := (hb3.cell (p := ⟨bk, off + 1, none⟩) (World.block_lt_of_cell? _ _ m1)).trans m1
                have q2 := (hb3.cell (p := ⟨bk, off + 2, none⟩) (World.block_lt_of_cell? _ _ m2)).trans m2
                go_wp2_with fail
                refine (hnp _).mono ?_
                rintro e w4 ⟨rfl, hb4⟩
                have B4 := Below.chain B3 hb4
                have hx4 := hx3.later hb4
                have ho4 := ho3.later hb4
                have r2 := (hb4.cell (p := ⟨bk, off + 2, none⟩) (World.block_lt_of_cell? _ _ q2)).trans q2
                have hx5 := hx4.later (bal (Below.refl _ w4) (.cells #[.bool nv, .int .i64 nn] 32))
                have B5 := bal B4 (.cells #[.bool nv, .int .i64 nn] 32)
                have ho5 := ho4.later (bal (Below.refl _ w4) (.cells #[.bool nv, .int .i64 nn] 32))
                have r5 := (cell_later' r2 (bal (Below.refl _ w4) (.cells #[.bool nv, .int .i64 nn] 32)))
                have hnb := Fx.Box.new w4 nv nn
                go_wp2_with fail
                generalize w4.alloc (.cells _ 32) = w5 at *
                refine (htm _ (he.later B5)).mono ?_
                rintro e w6 ⟨rfl, hb6⟩
                have B6 := Below.chain B5 hb6
                have hx6 := hx5.later hb6
                have ho6 := ho5.later hb6
                obtain ⟨d0, d1, g0, g1⟩ := hnb.later hb6
                obtain ⟨c0, c1, c2, c3, c4, c5, f0, f1, f2, f3, f4, f5⟩ := hx6
                go_wp2
                exact bodyPost_ret (v := .tuple #[.agg #[.slice none 0 0, .bool false, .int .i64 0, .int .i64 0, .bool false, .int .i64 0], .int .i64 152]) (by simp [results, Tryz.results12, go_sem, c0, c1, c2, c3, c4, c5]) rfl ⟨.slice none 0 0, by rw [HE.out, HS.out]; rfl, by rw [HS.out]; exact Own.none _ _, below6 B6 (Nat.le_refl _) _ _ _ _ _ _⟩
              | true =>
                have HE : Hid (E = 0) := by show _ = _; rw [HE0.out, HW.out, HF.out]; simp [Fx.pe]
                have HS : Hid (X = ⟨L, nv, nn, tv, true, 0⟩) := by show _ = _; rw [HS0.out, HE.out]; rw [if_pos rfl, HX.out]
                clear HE0 HS0 HW HX HF HP
                go_enter Tryz.func12, Tryz.ntmps12
                go_wp2_with fail
                generalize w.alloc (.cells _ 34) = w0 at *
                refine hwd.mono ?_
                rintro e w1 ⟨v1, rfl, ho1, hb1⟩
                obtain ⟨ao, cap, rfl, hss, _, _⟩ := ho1.slice
                obtain ⟨_, hss⟩ := hss
                obtain ⟨bk, off, rfl, hcs⟩ := hss (by simp)
                have k0 : w1.cell? ⟨bk, off, none⟩ = some (tx a) := hcs 0 (by simp)
                have k1 : w1.cell? ⟨bk, off + 1, none⟩ = some (tx b) := hcs 1 (by simp)
                have k2 : w1.cell? ⟨bk, off + 2, none⟩ = some (tx c) := hcs 2 (by simp)
                clear hcs hss
                have B1 := Below.chain hb0 hb1
                have hx1 := hx.later hb1
                clear hx ho1
                go_wp2_with fail
                refine (hps _ (he.later B1).mx).mono ?_
                rintro e w2 ⟨v2, rfl, ho2, hb2⟩
                have B2 := Below.chain B1 hb2
                have hx2 := hx1.later hb2
                have m1 := (hb2.cell (p := ⟨bk, off + 1, none⟩) (World.block_lt_of_cell? _ _ k1)).trans k1
                have m2 := (hb2.cell (p := ⟨bk, off + 2, none⟩) (World.block_lt_of_cell? _ _ k2)).trans k2
                obtain ⟨la, lc, rfl, hpl⟩ := ho2.fitN
                go_wp2_with fail
                refine (hhm _ _ _ hpl).mono ?_
                rintro e w3 ⟨rfl, hb3⟩
                have B3 := Below.chain B2 hb3
                have hx3 := hx2.later hb3
                have ho3 := ho2.later hb3
                have q1 := (hb3.cell (p := ⟨bk, off + 1, none⟩) (World.block_lt_of_cell? _ _ m1)).trans m1
                have q2 := (hb3.cell (p := ⟨bk, off + 2, none⟩) (World.block_lt_of_cell? _ _ m2)).trans m2
                go_wp2_with fail
                refine (hnp _).mono ?_
                rintro e w4 ⟨rfl, hb4⟩
                have B4 := Below.chain B3 hb4
                have hx4 := hx3.later hb4
                have ho4 := ho3.later hb4
                have r2 := (hb4.cell (p := ⟨bk, off + 2, none⟩) (World.block_lt_of_cell? _ _ q2)).trans q2
                have hx5 := hx4.later (bal (Below.refl _ w4) (.cells #[.bool nv, .int .i64 nn] 32))
                have B5 := bal B4 (.cells #[.bool nv, .int .i64 nn] 32)
                have ho5 := ho4.later (bal (Below.refl _ w4) (.cells #[.bool nv, .int .i64 nn] 32))
                have r5 := (cell_later' r2 (bal (Below.refl _ w4) (.cells #[.bool nv, .int .i64 nn] 32)))
                have hnb := Fx.Box.new w4 nv nn
                go_wp2_with fail
                generalize w4.alloc (.cells _ 32) = w5 at *
                refine (htm _ (he.later B5)).mono ?_
                rintro e w6 ⟨rfl, hb6⟩
                have B6 := Below.chain B5 hb6
                have hx6 := hx5.later hb6
                have ho6 := ho5.later hb6
                obtain ⟨d0, d1, g0, g1⟩ := hnb.later hb6
                obtain ⟨c0, c1, c2, c3, c4, c5, f0, f1, f2, f3, f4, f5⟩ := hx6
                go_wp2
                exact bodyPost_ret (v := .tuple #[.agg #[.slice la L.length lc, .bool nv, .int .i64 nn, .int .i64 tv, .bool true, .int .i64 0], .int .i64 0]) (by simp [results, Tryz.results12, go_sem, c0, c1, c2, c3, c4, c5]) rfl ⟨_, by rw [HE.out, HS.out], by rw [HS.out]; exact (ho6.kept (grown6 _ _ _ _ _ _ _ _) (fun b e e2 => by injection e2 with e2; have := (World.ownsRow.lt ho6 b e).1; have := B1.size; have := hx1.lt; omega)).base (Nat.le_trans B1.size (Nat.le_refl _)), below6 B6 (Nat.le_refl _) _ _ _ _ _ _⟩
      · have HE : Hid (E = 12) := by show _ = _; rw [HE0.out, wE_len h2 h3]
        have HS : Hid (X = scr0) := by show _ = _; rw [HS0.out, HE.out]; rfl
        have h2' : ((W.length : Int) != 2) = true := by rw [bne_iff_ne]; omega
        have h3' : ((W.length : Int) != 3) = true := by rw [bne_iff_ne]; omega
        clear HE0 HS0 h2 h3 hsub
        go_enter Tryz.func12, Tryz.ntmps12
        go_wp2_with fail
        generalize w.alloc (.cells _ 34) = w0 at *
        refine hwd.mono ?_
        rintro e w1 ⟨v1, rfl, ho1, hb1⟩
        obtain ⟨ao, cap, rfl, hss, _, _⟩ := ho1.slice
        obtain ⟨c0, c1, c2, c3, c4, c5, f0, f1, f2, f3, f4, f5⟩ := hx.later hb1
        go_wp2
        exact bodyPost_ret (v := .tuple #[.agg #[.slice none 0 0, .bool false, .int .i64 0, .int .i64 0, .bool false, .int .i64 0], .int .i64 12]) (by simp [results, Tryz.results12, go_sem, c0, c1, c2, c3, c4, c5]) rfl ⟨.slice none 0 0, by rw [HE.out, HS.out]; rfl, by rw [HS.out]; exact Own.none _ _, below6 (Below.chain hb0 hb1) (Nat.le_refl _) _ _ _ _ _ _⟩
end Go.Proofs.YtcbjhfnlhpallaaGreatDoor
