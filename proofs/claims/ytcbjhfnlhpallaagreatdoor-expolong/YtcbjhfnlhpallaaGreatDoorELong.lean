/- ExpoLong: a line, a body of the greatest length is read, one byte more isn't. -/
import Derived.Test.YtcbjhfnlhpallaaGreatDoorEView
namespace Go.Proofs.YtcbjhfnlhpallaaGreatDoor
open Go.RowKit

/-! ### Plain -/
def up1 : Str := [117, 112, 32, 49]
def preL (m : Nat) : Str := ended (up1 :: List.replicate m [35])
theorem preL_zero : preL 0 = [117, 112, 32, 49, 10] := rfl
theorem preL_succ (m : Nat) : preL (m + 1) = preL m ++ [35, 10] := by
  unfold preL
  rw [List.replicate_succ', ← List.cons_append, ended_append, ended_one]
  rfl
theorem preL_len (m : Nat) : (preL m).length = 5 + 2 * m := by
  induction m with
  | zero => rfl
  | succ m ih => rw [preL_succ, List.length_append, ih]; simp; omega
theorem sp_tail : ∀ (l : List Str) (t : Str), (∀ a ∈ l, 10 ∉ a) → 10 ∉ t → sp 10 (ended l ++ t) = l ++ [t]
  | [], t, _, ht => by simpa [ended] using sp_none ht
  | a :: l, t, h, ht => by
    rw [ended_cons, List.append_assoc, List.cons_append, sp_at _ (h a (by simp)), sp_tail l t (fun b hb => h b (by simp [hb])) ht]
    rfl
theorem note_hash (k : Nat) : fNote (List.replicate k 35) = none := by
  unfold fNote
  rw [sp_none (by simp)]
  rfl
theorem step_hash (st : St) (i k : Nat) : stepL st i (List.replicate (k + 1) 35) = st := by
  have e1 : List.replicate (k + 1) (35 : UInt8) ≠ [] := by rw [List.replicate_succ]; simp
  have e2 : (List.replicate (k + 1) (35 : UInt8)).head? = some 35 := by rw [List.replicate_succ]; rfl
  unfold stepL
  rw [if_neg e1, if_pos e2, note_hash]
  rfl
theorem run_hash : ∀ (m : Nat) (st : St) (i : Nat), runL st i (List.replicate m [35]) = st
  | 0, st, i => rfl
  | m + 1, st, i => by
    rw [List.replicate_succ, runL, show ([35] : Str) = List.replicate (0 + 1) 35 from rfl, step_hash]
    exact run_hash m st (i + 1)
theorem up1_out : (stepL st0 1 up1).out.length = 1 ∧ (stepL st0 1 up1).bad = [] := by
  constructor
  · decide +kernel
  · decide +kernel
theorem body_long {m k : Nat} (h : (preL m ++ List.replicate (k + 1) 35).length ≤ 3000) : (bodyS (preL m ++ List.replicate (k + 1) 35)).out.length = 1 ∧ (bodyS (preL m ++ List.replicate (k + 1) 35)).bad = [] := by
  have e : bodyS (preL m ++ List.replicate (k + 1) 35) = stepL st0 1 up1 := by
    unfold bodyS
    rw [if_neg (by omega)]
    unfold preL
    rw [sp_tail _ _ (by intro a ha; rcases List.mem_cons.1 ha with rfl | ha; decide; rw [(List.mem_replicate.1 ha).2]; decide) (by simp), List.cons_append, runL, runL_append, run_hash]
    exact step_hash _ (1 + 1 + (List.replicate m ([35] : Str)).length) k
  rw [e]
  exact up1_out
theorem body_over {s : Str} (h : 3000 < s.length) : (bodyS s).out = [] ∧ (bodyS s).bad = [(0, 11)] := by
  unfold bodyS
  rw [if_pos h]
  exact ⟨rfl, rfl⟩
def upS (k : Nat) : Str := [117, 112, 32] ++ List.replicate k 49
theorem upS_succ (k : Nat) : upS (k + 1) = upS k ++ [49] := by unfold upS; rw [List.replicate_succ']; simp
theorem upS_len (k : Nat) : (upS k).length = 3 + k := by unfold upS; simp; omega
theorem ones_no {k : Nat} (h : 14 ≤ k) : Fx.fParse (List.replicate k 49) = none := by
  obtain ⟨j, rfl⟩ : ∃ j, k = j + 1 := ⟨k - 1, by omega⟩
  have hd : Fx.dgs (List.replicate (j + 1) 49) = true := by
    unfold Fx.dgs
    rw [List.all_eq_true]
    intro x hx
    rw [(List.mem_replicate.1 hx).2]
    decide
  have hm : Fx.mns (List.replicate (j + 1) 49) = false := by unfold Fx.mns; rw [List.replicate_succ]; rfl
  have hb : Fx.bare (List.replicate (j + 1) 49) = List.replicate (j + 1) 49 := by unfold Fx.bare; rw [hm]; rfl
  have hne : ¬ List.replicate (j + 1) (49 : UInt8) = [111, 118, 102] := fun e => by
    rw [List.replicate_succ] at e
    injection e with e _
    revert e; decide
  unfold Fx.fParse
  rw [if_neg hne]
  have hok : Fx.okT (List.replicate (j + 1) 49) = false := by
    unfold Fx.okT
    rw [hb, Fx.cut_all hd]
    have : Fx.fWhole (List.replicate (j + 1) 49) = false := by
      cases e : Fx.fWhole (List.replicate (j + 1) 49) with
      | false => rfl
      | true => have := (Fx.whole_of e).2.1; simp at this; omega
    simp [this]
  rw [hok]
  rfl
theorem line_upS {k : Nat} (h1 : 14 ≤ k) (h2 : k ≤ 297) : lineE (upS k) = 20 := by
  have hw : wd (upS k) = [[117, 112], List.replicate k 49] := by
    have e : upS k = [117, 112] ++ 32 :: List.replicate k 49 := by simp [upS]
    rw [e, wd_step (Closed.plain (by decide)), wd_end (Closed.plain (by intro c hc; rw [(List.mem_replicate.1 hc).2]; decide))]
  unfold lineE
  rw [if_neg (by rw [upS_len]; omega), hw]
  show (if fSet [117, 112] = true then Fx.pe (Fx.fParse (List.replicate k 49)) else 30) = 20
  rw [ones_no h1, if_pos (by decide +kernel)]
  rfl
theorem line_over {s : Str} (h : 300 < s.length) : lineE s = 11 := by unfold lineE; rw [if_pos h]

/-! ### The law -/
theorem pre_app (m : Nat) : ((⟨(preL m).toArray⟩ : ByteArray) ++ ⟨#[35, 10]⟩) = ⟨(preL (m + 1)).toArray⟩ := by rw [preL_succ]; exact ba_append _ _
def bodL (k : Nat) : Str := preL 1495 ++ List.replicate k 35
theorem bod_succ (k : Nat) : bodL (k + 1) = bodL k ++ [35] := by unfold bodL; rw [List.replicate_succ', List.append_assoc]
theorem bod_len (k : Nat) : (bodL k).length = 2995 + k := by unfold bodL; rw [List.length_append, preL_len, List.length_replicate]
theorem bod_app (k : Nat) : ((⟨(bodL k).toArray⟩ : ByteArray) ++ ⟨#[35]⟩) = ⟨(bodL (k + 1)).toArray⟩ := by rw [bod_succ]; exact ba_append _ _
theorem ups_app (k : Nat) : ((⟨(upS k).toArray⟩ : ByteArray) ++ ⟨#[49]⟩) = ⟨(upS (k + 1)).toArray⟩ := by rw [upS_succ]; exact ba_append _ _
theorem bod_zero : bodL 0 = preL 1495 := by unfold bodL; simp
set_option maxRecDepth 20000 in
set_option maxHeartbeats 8000000 in
theorem long_any (n : Nat) (b : Bool) (w : World) (hn : n < 256) (he : Ev w) : Calls Tryz.prog 8 #[.int .u8 n, .bool b] w fun e w' => e = .returned (.bool true) ∧ Below w.heap.size w w' := by
  have hk := known_any w he
  have hm6 : n % 6 < 6 := Nat.mod_lt _ (by decide)
  cases b with
  | true =>
    go_enter Tryz.func8, Tryz.ntmps8
    go_wp2_with fail
    refine hk.mono ?_
    rintro e w1 ⟨rfl, hb1⟩
    have he1 := he.later hb1
    go_wp2_with fail
    go_loop [5] (fun s => ∃ m : Nat, m ≤ 1495 ∧ s = tx (preL m)) (fun s => 3000 - strLen s)
    case atStart => exact ⟨0, by omega, rfl⟩
    case round =>
      obtain ⟨m, hm, rfl⟩ := hrel
      have hl := preL_len m
      by_cases hlt : m < 1495
      · have ht : ((preL m).length : Int) < 2995 := by omega
        have ha := pre_app m
        have hl2 := preL_len (m + 1)
        obtain ⟨P2, hP⟩ : ∃ t, t = preL (m + 1) := ⟨_, rfl⟩
        have HP : Hid _ := hP
        rw [← hP] at ha hl2
        clear hP
        go_wp2
        go_round
        case rel => exact ⟨m + 1, by omega, by rw [HP.out]⟩
        case measure => rw [strLen_tx, strLen_tx]; omega
      · obtain rfl : m = 1495 := by omega
        have ht : ¬ ((preL 1495).length : Int) < 2995 := by omega
        go_wp2_with fail
        go_loop [5] (fun s => ∃ k : Nat, k ≤ 2 + n % 6 ∧ s = tx (bodL k)) (fun s => 4000 - strLen s)
        case atStart => exact ⟨0, by omega, by rw [bod_zero]⟩
        case round =>
          obtain ⟨k, hk2, rfl⟩ := hrel
          have hl := bod_len k
          by_cases hlt2 : k < 2 + n % 6
          · have ha := bod_app k
            have hl2 := bod_len (k + 1)
            obtain ⟨P2, hP⟩ : ∃ t, t = bodL (k + 1) := ⟨_, rfl⟩
            have HP : Hid _ := hP
            rw [← hP] at ha hl2
            clear hP
            generalize bodL k = P1 at *
            have ht2 : (P1.length : Int) < 3000 + ((n : Int) % 6) - 3 := by omega
            go_wp2
            go_round
            case rel => exact ⟨k + 1, by omega, by rw [HP.out]⟩
            case measure => rw [strLen_tx, strLen_tx]; omega
          · obtain ⟨j, hj⟩ : ∃ j, k = j + 1 := ⟨k - 1, by omega⟩
            subst hj
            have hp := parseV_any (bodL (j + 1)) w1 (by omega) he1
            by_cases hov : 3000 < (bodL (j + 1)).length
            · obtain ⟨e1, e2⟩ := body_over hov
              rw [e1, e2] at hp
              clear e1 e2
              generalize bodL (j + 1) = P1 at *
              have ht2 : ¬ (P1.length : Int) < 3000 + ((n : Int) % 6) - 3 := by omega
              have ht3 : (3000 : Int) < P1.length := by omega
              go_wp2_with fail
              refine hp.mono ?_
              rintro e w2 ⟨ao, cap, bo, bcap, rfl, _, hb, hB⟩
              obtain ⟨_, hb'⟩ := hb
              obtain ⟨b2, o2, rfl, hb⟩ := hb' (by decide)
              clear hb'
              obtain ⟨z0, z1⟩ := hb 0 (by decide)
              have t0 : w2.cell? ⟨b2, o2, none⟩ = some (.int .i64 0) := z0
              have t1 : w2.cell? ⟨b2, o2 + 1, none⟩ = some (.int .i64 11) := z1
              clear z0 z1 hb hp
              go_wp2
              go_ret
              exact ⟨rfl, Below.chain hb1 hB⟩
            · obtain ⟨e1, e2⟩ := body_long (m := 1495) (k := j) (by show (bodL (j + 1)).length ≤ 3000; omega)
              have e1 : (bodyS (bodL (j + 1))).out.length = 1 := e1
              have e2 : (bodyS (bodL (j + 1))).bad = [] := e2
              rw [e1, e2] at hp
              clear e1 e2
              generalize (bodyS (bodL (j + 1))).out = BO at *
              generalize bodL (j + 1) = P1 at *
              have ht2 : ¬ (P1.length : Int) < 3000 + ((n : Int) % 6) - 3 := by omega
              have ht3 : ¬ (3000 : Int) < P1.length := by omega
              go_wp2_with fail
              refine hp.mono ?_
              rintro e w2 ⟨ao, cap, bo, bcap, rfl, _, _, hB⟩
              clear hp
              go_wp2
              go_ret
              exact ⟨rfl, Below.chain hb1 hB⟩
  | false =>
    go_enter Tryz.func8, Tryz.ntmps8
    go_wp2_with fail
    refine hk.mono ?_
    rintro e w1 ⟨rfl, hb1⟩
    have he1 := he.later hb1
    go_wp2_with fail
    go_loop [8] (fun s => ∃ k : Nat, k ≤ 294 + n % 6 ∧ s = tx (upS k)) (fun s => 400 - strLen s)
    case atStart => exact ⟨0, by omega, rfl⟩
    case round =>
      obtain ⟨k, hk2, rfl⟩ := hrel
      have hl := upS_len k
      by_cases hlt : k < 294 + n % 6
      · have ha := ups_app k
        have hl2 := upS_len (k + 1)
        obtain ⟨P2, hP⟩ : ∃ t, t = upS (k + 1) := ⟨_, rfl⟩
        have HP : Hid _ := hP
        rw [← hP] at ha hl2
        clear hP
        generalize upS k = P1 at *
        have ht2 : (P1.length : Int) < 300 + ((n : Int) % 6) - 3 := by omega
        go_wp2
        go_round
        case rel => exact ⟨k + 1, by omega, by rw [HP.out]⟩
        case measure => rw [strLen_tx, strLen_tx]; omega
      · have hp := line_any (upS k) w1 (by omega) he1
        by_cases hov : 300 < (upS k).length
        · rw [line_over hov] at hp
          generalize lineS (upS k) = X at *
          generalize upS k = P1 at *
          have ht2 : ¬ (P1.length : Int) < 300 + ((n : Int) % 6) - 3 := by omega
          have ht3 : (300 : Int) < P1.length := by omega
          go_wp2_with fail
          refine hp.mono ?_
          rintro e w2 ⟨v2, rfl, ho2, hB⟩
          obtain ⟨la2, lc2, rfl, _⟩ := ho2.fitN
          have B3 := bal hB (.cells #[.slice la2 X.ls.length lc2, .bool X.ov, .int .i64 X.n, .int .i64 X.t, .bool X.has, .int .i64 X.kind] 34)
          clear hp ho2
          go_wp2
          go_ret
          exact ⟨by simp, Below.chain hb1 B3⟩
        · rw [line_upS (k := k) (by omega) (by omega)] at hp
          generalize lineS (upS k) = X at *
          generalize upS k = P1 at *
          have ht2 : ¬ (P1.length : Int) < 300 + ((n : Int) % 6) - 3 := by omega
          have ht3 : ¬ (300 : Int) < P1.length := by omega
          go_wp2_with fail
          refine hp.mono ?_
          rintro e w2 ⟨v2, rfl, ho2, hB⟩
          obtain ⟨la2, lc2, rfl, _⟩ := ho2.fitN
          have B3 := bal hB (.cells #[.slice la2 X.ls.length lc2, .bool X.ov, .int .i64 X.n, .int .i64 X.t, .bool X.has, .int .i64 X.kind] 34)
          clear hp ho2
          go_wp2
          go_ret
          exact ⟨by simp; omega, Below.chain hb1 B3⟩
end Go.Proofs.YtcbjhfnlhpallaaGreatDoor
