/-
  PROVED: for every bytes, every text and every bound the law BitsTexts of the program at this commit answers true and leaves its input as it was: every text behind bytes, and what is read of whatever bytes, are the document's. No condition.
-/
import Derived.Test.YteajcgodfbaeiaaRows
import Derived.Test.YteajcgodfbaeiaaCopy
import Derived.WalkKit
import Derived.ProofKit
import Derived.OpenShut
import Derived.ShutString
import Derived.ChangeOld
import Derived.Below
namespace Go.Proofs.Yteajcgodfbaeiaa.bitsTexts
open Go.ChangeShapes Go.WideShapes Go.ChangeAt Go.RowKit
open Go.ChangeMaps (open_string shut_string)
set_option linter.unusedVariables false

theorem own : ownKnob Try.prog.godebug = none := by kernel_rfl
theorem laidOut : laidOutB Try.prog = true := by kernel_rfl

/-- WHAT THE WALK IS TOLD OF A SLICE OF INTEGERS THAT CAME IN: it is nil; or it leads to a row of 'cap' cells, the numbers 'zs' (the first 'len' are its elements, the rest its spare room), each fitting its kind. -/
def IsRow (k : IntKind) (w : World) (a : Option Addr) (len cap : Nat) (zs : List Int) : Prop :=
  (a = none ∧ len = 0 ∧ cap = 0 ∧ zs = []) ∨
  ∃ x, a = some x ∧ len ≤ cap ∧ cap ≤ maxLen ∧ zs.length = cap ∧ (∀ i, i < zs.length → w.cell? (x.add i) = some (.int k (zs.getD i 0))) ∧ ∀ n ∈ zs, (Lit.int k n).wf = true

attribute [local go_sem ↓] Go.wp_at_zero Go.wp_at_succ

/-- The bytes that the slice holds. -/
theorem IsRow.bytes {w : World} {a : Option Addr} {len cap : Nat} {zs : List Int} (h : IsRow .u8 w a len cap zs) : ∃ l, Bs w a len cap l := by
  rcases h with ⟨rfl, rfl, rfl, rfl⟩ | ⟨x, rfl, hl, hm, hz, hcell, hwz⟩
  · exact ⟨[], Bs.nil w⟩
  · have hb : ∀ j, j < cap → 0 ≤ zs.getD j 0 ∧ zs.getD j 0 ≤ 255 := fun j hj => by
      have hmem : zs.getD j 0 ∈ zs := by
        rw [List.getD_eq_getElem?_getD, List.getElem?_eq_getElem (show j < zs.length by omega)]
        exact List.getElem_mem _
      simpa [Lit.wf, IntKind.min, IntKind.max, IntKind.signed, IntKind.bits] using hwz _ hmem
    refine ⟨(zs.take len).map fun z => UInt8.ofNat z.toNat, by simp; omega, hl, hm, fun hp => ?_⟩
    obtain ⟨b, off, spot⟩ := x
    have hc := hcell 0 (by omega)
    have hspot : spot = none := by simpa [Addr.add] using World.cell?_spot hc
    subst hspot
    refine ⟨b, off, rfl, fun j hj => ?_⟩
    have h1 := hcell j (by omega)
    rw [Addr.add_lit] at h1
    have h2 := hb j (by omega)
    have e : (((zs.take len).map fun z => UInt8.ofNat z.toNat).getD j 0).toNat = (zs.getD j 0).toNat := by
      have : ((zs.take len).map fun z => UInt8.ofNat z.toNat).getD j 0 = UInt8.ofNat (zs.getD j 0).toNat := by
        simp [List.getD, List.getElem?_map, hj, List.getElem?_eq_getElem (show j < zs.length by omega)]
      rw [this, UInt8.toNat_ofNat']
      exact Nat.mod_eq_of_lt (by omega)
    rw [h1, e, Int.toNat_of_nonneg h2.1]

/-- What is read of bytes as a text: the text, what is behind it, the error. -/
def gt (l : List UInt8) (most : Int) : List UInt8 × List UInt8 × Int :=
  if l.length < 2 then ([], l, 10) else if most < num (l.take 2) then ([], l, 11) else if l.length - 2 < num (l.take 2) then ([], l, 10) else ((l.drop 2).take (num (l.take 2)), (l.drop 2).drop (num (l.take 2)), 0)

theorem gettext_any (ao : Option Addr) (n cap : Nat) (most : Int) (l : List UInt8) (w : World) (hb : Bs w ao n cap l) (hB : n ≤ 1000000) :
    Calls Try.prog 17 #[.slice ao n cap, .int .i64 most] w fun e w' => ∃ ao m cap, e = .returned (.tuple #[.string ⟨(gt l most).1.toArray⟩, .slice ao m cap, .int .i64 (gt l most).2.2]) ∧ Bs w' ao m cap (gt l most).2.1 ∧ Below w.heap.size w w' := by
  have hl := hb.1
  unfold gt
  by_cases h1 : l.length < 2
  · rw [if_pos h1]
    exact gettext_none ao n cap most l w hb (by omega)
  · rw [if_neg h1]
    by_cases h2 : most < num (l.take 2)
    · rw [if_pos h2]
      exact gettext_long ao n cap most l w hb hB (by omega) h2
    · rw [if_neg h2]
      by_cases h3 : l.length - 2 < num (l.take 2)
      · rw [if_pos h3]
        exact gettext_short ao n cap most l w hb hB (by omega) (by omega) (by omega)
      · rw [if_neg h3]
        exact gettext_ok ao n cap most l w hb hB (by omega) (by omega) (by omega)

theorem rgettext_any (ao : Option Addr) (n cap : Nat) (most : Int) (l : List UInt8) (w : World) (hb : Bs w ao n cap l) (hB : n ≤ 1000000) (hmax : most ≤ 9223372036854775807) :
    Calls Try.prog 18 #[.slice ao n cap, .int .i64 most] w fun e w' => ∃ ao m cap, e = .returned (.tuple #[.string ⟨(gt l most).1.toArray⟩, .slice ao m cap, .int .i64 (gt l most).2.2]) ∧ Bs w' ao m cap (gt l most).2.1 ∧ Below w.heap.size w w' := by
  have hl := hb.1
  unfold gt
  by_cases h1 : l.length < 2
  · rw [if_pos h1]
    refine (rtext_none ao n cap most w (by omega)).mono ?_
    rintro e w' ⟨rfl, hbel⟩
    exact ⟨_, _, _, rfl, hb.later hbel, hbel⟩
  · rw [if_neg h1]
    by_cases h2 : most < num (l.take 2)
    · rw [if_pos h2]
      refine (rtext_long ao n cap most l w hb (by omega) hmax h2).mono ?_
      rintro e w' ⟨rfl, hbel⟩
      exact ⟨_, _, _, rfl, hb.later hbel, hbel⟩
    · rw [if_neg h2]
      by_cases h3 : l.length - 2 < num (l.take 2)
      · rw [if_pos h3]
        refine (rtext_short ao n cap most l w hb hB (by omega) hmax (by omega) (by omega)).mono ?_
        rintro e w' ⟨rfl, hbel⟩
        exact ⟨_, _, _, rfl, hb.later hbel, hbel⟩
      · rw [if_neg h3]
        exact rtext_ok ao n cap most l w hb hB (by omega) hmax (by omega) (by omega)

set_option maxHeartbeats 4000000 in
theorem walk_in (a0 : Option Addr) (n0 c0 : Nat) (s : ByteArray) (most : Int) (la : List UInt8) (w : World) (ha : Bs w a0 n0 c0 la) (h0 : n0 ≤ 300) (h1 : s.size ≤ 300) (hmax : most ≤ 9223372036854775807) :
    Calls Try.prog 4 #[.slice a0 n0 c0, .string s, .int .i64 most] w fun e w' => e = .returned (.bool true) ∧ Below w.heap.size w w' := by
  have h0' : ¬ (300 : Int) < (n0 : Int) := by omega
  have h1' : ¬ (300 : Int) < (s.size : Int) := by omega
  obtain ⟨tb, htb⟩ : ∃ tb, la ++ (low s.size 2 ++ s.data.toList) = tb := ⟨_, rfl⟩
  have hdrop : tb.drop n0 = low s.size 2 ++ (s.data.toList ++ []) := by
    rw [← htb, List.append_nil, List.drop_append_of_le_length (by rw [ha.1]; exact Nat.le_refl _), List.drop_of_length_le (by rw [ha.1]; exact Nat.le_refl _), List.nil_append]
  have hlen : tb.length = n0 + (2 + s.size) := by rw [← htb, List.length_append, List.length_append, low_length, str_len, ha.1]
  have HTB : Hid (la ++ (low s.size 2 ++ s.data.toList) = tb) := htb
  have HDR : Hid (tb.drop n0 = low s.size 2 ++ (s.data.toList ++ [])) := hdrop
  have HLN : Hid (tb.length = n0 + (2 + s.size)) := hlen
  clear htb hdrop hlen
  go_enter Try.func4, Try.ntmps4
  go_wp2_with fail
  refine (known_any _).mono ?_
  rintro e w1 ⟨rfl, hbel1⟩
  go_wp2_with (at_builtin; go_must (refine wpList_copy rfl _ _ rfl a0 n0 c0 la rfl rfl (ha.later hbel1) (by omega) ?_))
  intro ac cc wc _ hbc hbelc
  have hbelA := Below.chain hbel1 hbelc
  clear hbel1 hbelc
  go_wp2_with fail
  refine (text_any ac n0 cc s la wc hbc (by omega) (by omega)).mono ?_
  rintro e w2 ⟨ab, mb, cb, rfl, hbb, hbel2⟩
  rw [HTB.out] at hbb
  have hbelB := Below.chain hbelA hbel2
  clear hbelA hbel2 hbc
  go_wp2_with (at_builtin; go_must (refine wpList_copy rfl _ _ rfl a0 n0 c0 la rfl rfl (ha.later hbelB) (by omega) ?_))
  intro ad cd wd _ hbd hbeld
  have hbelC := Below.chain hbelB hbeld
  have hbb := hbb.later hbeld
  clear hbelB hbeld
  go_wp2_with fail
  refine (gettext_any ad n0 cd most la wd hbd (by omega)).mono ?_
  rintro e w3 ⟨a3, m3, c3, rfl, hb3, hbel3⟩
  have hbelD := Below.chain hbelC hbel3
  have hbb := hbb.later hbel3
  clear hbelC hbel3 hbd
  go_wp2_with fail
  refine (rgettext_any a0 n0 c0 most la w3 (ha.later hbelD) (by omega) hmax).mono ?_
  rintro e w4 ⟨a4, m4, c4, rfl, hb4, hbel4⟩
  have hbelE := Below.chain hbelD hbel4
  have hbb := hbb.later hbel4
  have hb3 := hb3.later hbel4
  clear hbelD hbel4
  generalize (gt la most).1 = X at *
  generalize (gt la most).2.1 = R at *
  generalize (gt la most).2.2 = E at *
  have hmb : mb = n0 + (2 + s.size) := hbb.1.symm.trans HLN.out
  have hnb : n0 ≤ mb := by omega
  have hmb2 : mb ≤ 1000000 := by omega
  have hcb := hbb.2.1
  have ct := cut_tail ab mb cb n0 hnb
  have hbt := hbb.tail n0 hnb
  rw [HDR.out] at hbt
  have hmt : mb - n0 ≤ 1000000 := by omega
  clear hmb
  generalize mb - n0 = mt at *
  generalize cutA ab cb n0 = at5 at *
  generalize cb - n0 = ct5 at *
  go_wp2_with fail
  refine (text_back at5 mt ct5 s [] 300 w4 (by omega) hbt hmt (by omega)).mono ?_
  rintro e w6 ⟨a5, m5, c5, rfl, hb5, hbel6⟩
  obtain rfl : 0 = m5 := hb5.1
  have hbelE := Below.chain hbelE hbel6
  have hbb := hbb.later hbel6
  have hb3 := hb3.later hbel6
  have hb4 := hb4.later hbel6
  have ha6 := ha.later hbelE
  clear ct hbt hbel6 hb5
  have B2 : Below w6.heap.size w6 w6.drew := (Below.refl _ _).drew
  have hcvA : ∀ W : World, Below w6.heap.size w6 W → (convert 22 9 (.slice ab mb cb)).run Try.prog W = .ok (.string ⟨tb.toArray⟩) W := fun W h => conv_string (hbb.later h)
  have hcvB : ∀ W : World, Below w6.heap.size w6 W → (convert 22 9 (.slice a3 m3 c3)).run Try.prog W = .ok (.string ⟨R.toArray⟩) W := fun W h => conv_string (hb3.later h)
  have hcvC : ∀ W : World, Below w6.heap.size w6 W → (convert 22 9 (.slice a4 m4 c4)).run Try.prog W = .ok (.string ⟨R.toArray⟩) W := fun W h => conv_string (hb4.later h)
  go_wp2_with fail
  refine wp_region_noPanic ?_
  refine wp_region_held_drew (S := fun W => Below w6.heap.size w6 W) (by kernel_rfl) ?_ (fun _ => ?_)
  · exact B2
  refine take_at 0 (some 55) (.slice ab mb cb) rfl rfl (by kernel_rfl) (by kernel_rfl) (by kernel_rfl) (fun _ _ _ h => h) (by rfl) (fun W hSw => by go_simp) B2 ?_
  simp only [Act.put, List.setIfInBounds_toArray, List.set_cons_zero, List.set_cons_succ]
  refine take_at 1 (some 56) (.string ⟨tb.toArray⟩) rfl rfl (by kernel_rfl) (by kernel_rfl) (by kernel_rfl) (fun _ _ _ h => h) (by rfl) (fun W hSw => by go_simp) B2 ?_
  simp only [Act.put, List.setIfInBounds_toArray, List.set_cons_zero, List.set_cons_succ]
  refine take_at 2 (some 57) (.slice a0 n0 c0) rfl rfl (by kernel_rfl) (by kernel_rfl) (by kernel_rfl) (fun _ _ _ h => h) (by rfl) (fun W hSw => by go_simp) B2 ?_
  simp only [Act.put, List.setIfInBounds_toArray, List.set_cons_zero, List.set_cons_succ]
  refine take_at 4 (some 59) (.string s) rfl rfl (by kernel_rfl) (by kernel_rfl) (by kernel_rfl) (fun _ _ _ h => h) (by rfl) (fun W hSw => by go_simp) B2 ?_
  simp only [Act.put, List.setIfInBounds_toArray, List.set_cons_zero, List.set_cons_succ]
  refine wpAnyH_ready (rs := [3]) (by kernel_rfl) (by simp) ?_
  refine AllReadyH.cons rfl (fun K hK => ?_) AllReadyH.nil
  refine step_copy _ _ (some 58) rfl rfl a0 n0 c0 la (by rfl) rfl rfl (ha6.later B2) (by omega) ?_
  intro a7 c7 w7 ho7 hb7 hbel7
  simp only [Act.put, List.setIfInBounds_toArray, List.set_cons_zero, List.set_cons_succ]
  refine hK.out _ _ ?_ (fun _ => ?_)
  · exact Below.chain B2 hbel7
  clear hK K
  refine wpAnyH_ready (rs := [5]) (by kernel_rfl) (by simp) ?_
  refine AllReadyH.cons rfl (fun K hK => ?_) AllReadyH.nil
  go_simp
  refine (rtext_any _ _ n0 s la _ ho7 (by omega) (by omega) hbel7.size).mono ?_
  rintro e w8 ⟨a8, m8, c8, rfl, hb8, hbel8⟩
  have hD : Below w6.heap.size w6 w8 := Below.chain B2 (hbel7.trans hbel8)
  rw [HTB.out] at hb8
  refine hK.out _ _ ?_ (fun _ => ?_)
  · exact hD
  clear hK K
  have hcvD := conv_string hb8
  refine wpAnyH_ready (rs := [6]) (by kernel_rfl) (by simp) ?_
  refine AllReadyH.cons rfl (fun K hK => ?_) AllReadyH.nil
  go_simp
  refine hK.out _ _ ?_ (fun _ => ?_)
  · exact hD
  clear hK K
  refine take_at 7 (some 62) (.bool true) rfl rfl (by kernel_rfl) (by kernel_rfl) (by kernel_rfl) (fun _ _ _ h => h) (by rfl) (fun W hSw => by go_simp) hD ?_
  simp only [Act.put, List.setIfInBounds_toArray, List.set_cons_zero, List.set_cons_succ]
  refine take_at 8 (some 63) (.bool true) rfl rfl (by kernel_rfl) (by kernel_rfl) (by kernel_rfl) (fun _ _ _ h => h) (by rfl) (fun W hSw => by go_simp) hD ?_
  simp only [Act.put, List.setIfInBounds_toArray, List.set_cons_zero, List.set_cons_succ]
  refine take_at 9 (some 64) (.string ⟨X.toArray⟩) rfl rfl (by kernel_rfl) (by kernel_rfl) (by kernel_rfl) (fun _ _ _ h => h) (by rfl) (fun W hSw => by go_simp) hD ?_
  simp only [Act.put, List.setIfInBounds_toArray, List.set_cons_zero, List.set_cons_succ]
  refine take_at 10 (some 65) (.string ⟨X.toArray⟩) rfl rfl (by kernel_rfl) (by kernel_rfl) (by kernel_rfl) (fun _ _ _ h => h) (by rfl) (fun W hSw => by go_simp) hD ?_
  simp only [Act.put, List.setIfInBounds_toArray, List.set_cons_zero, List.set_cons_succ]
  refine take_at 11 (some 66) (.bool true) rfl rfl (by kernel_rfl) (by kernel_rfl) (by kernel_rfl) (fun _ _ _ h => h) (by rfl) (fun W hSw => by go_simp) hD ?_
  simp only [Act.put, List.setIfInBounds_toArray, List.set_cons_zero, List.set_cons_succ]
  refine take_at 12 (some 67) (.bool true) rfl rfl (by kernel_rfl) (by kernel_rfl) (by kernel_rfl) (fun _ _ _ h => h) (by rfl) (fun W hSw => by go_simp) hD ?_
  simp only [Act.put, List.setIfInBounds_toArray, List.set_cons_zero, List.set_cons_succ]
  refine take_at 13 (some 68) (.bool true) rfl rfl (by kernel_rfl) (by kernel_rfl) (by kernel_rfl) (fun _ _ _ h => h) (by rfl) (fun W hSw => by go_simp) hD ?_
  simp only [Act.put, List.setIfInBounds_toArray, List.set_cons_zero, List.set_cons_succ]
  refine take_at 14 (some 69) (.int .i64 E) rfl rfl (by kernel_rfl) (by kernel_rfl) (by kernel_rfl) (fun _ _ _ h => h) (by rfl) (fun W hSw => by go_simp) hD ?_
  simp only [Act.put, List.setIfInBounds_toArray, List.set_cons_zero, List.set_cons_succ]
  refine take_at 15 (some 70) (.int .i64 E) rfl rfl (by kernel_rfl) (by kernel_rfl) (by kernel_rfl) (fun _ _ _ h => h) (by rfl) (fun W hSw => by go_simp) hD ?_
  simp only [Act.put, List.setIfInBounds_toArray, List.set_cons_zero, List.set_cons_succ]
  refine take_at 16 (some 71) (.bool true) rfl rfl (by kernel_rfl) (by kernel_rfl) (by kernel_rfl) (fun _ _ _ h => h) (by rfl) (fun W hSw => by go_simp) hD ?_
  simp only [Act.put, List.setIfInBounds_toArray, List.set_cons_zero, List.set_cons_succ]
  refine take_at 17 (some 72) (.bool true) rfl rfl (by kernel_rfl) (by kernel_rfl) (by kernel_rfl) (fun _ _ _ h => h) (by rfl) (fun W hSw => by go_simp) hD ?_
  simp only [Act.put, List.setIfInBounds_toArray, List.set_cons_zero, List.set_cons_succ]
  refine take_at 18 (some 73) (.bool true) rfl rfl (by kernel_rfl) (by kernel_rfl) (by kernel_rfl) (fun _ _ _ h => h) (by rfl) (fun W hSw => by go_simp) hD ?_
  simp only [Act.put, List.setIfInBounds_toArray, List.set_cons_zero, List.set_cons_succ]
  refine take_at 19 (some 74) (.slice a3 m3 c3) rfl rfl (by kernel_rfl) (by kernel_rfl) (by kernel_rfl) (fun _ _ _ h => h) (by rfl) (fun W hSw => by go_simp) hD ?_
  simp only [Act.put, List.setIfInBounds_toArray, List.set_cons_zero, List.set_cons_succ]
  refine take_at 20 (some 75) (.string ⟨R.toArray⟩) rfl rfl (by kernel_rfl) (by kernel_rfl) (by kernel_rfl) (fun _ _ _ h => h) (by rfl) (fun W hSw => by go_simp) hD ?_
  simp only [Act.put, List.setIfInBounds_toArray, List.set_cons_zero, List.set_cons_succ]
  refine take_at 21 (some 76) (.slice a4 m4 c4) rfl rfl (by kernel_rfl) (by kernel_rfl) (by kernel_rfl) (fun _ _ _ h => h) (by rfl) (fun W hSw => by go_simp) hD ?_
  simp only [Act.put, List.setIfInBounds_toArray, List.set_cons_zero, List.set_cons_succ]
  refine take_at 22 (some 77) (.string ⟨R.toArray⟩) rfl rfl (by kernel_rfl) (by kernel_rfl) (by kernel_rfl) (fun _ _ _ h => h) (by rfl) (fun W hSw => by go_simp) hD ?_
  simp only [Act.put, List.setIfInBounds_toArray, List.set_cons_zero, List.set_cons_succ]
  refine take_at 23 (some 78) (.bool true) rfl rfl (by kernel_rfl) (by kernel_rfl) (by kernel_rfl) (fun _ _ _ h => h) (by rfl) (fun W hSw => by go_simp) hD ?_
  simp only [Act.put, List.setIfInBounds_toArray, List.set_cons_zero, List.set_cons_succ]
  refine take_at 24 (some 79) (.bool true) rfl rfl (by kernel_rfl) (by kernel_rfl) (by kernel_rfl) (fun _ _ _ h => h) (by rfl) (fun W hSw => by go_simp) hD ?_
  simp only [Act.put, List.setIfInBounds_toArray, List.set_cons_zero, List.set_cons_succ]
  refine take_at 25 (some 80) (.bool true) rfl rfl (by kernel_rfl) (by kernel_rfl) (by kernel_rfl) (fun _ _ _ h => h) (by rfl) (fun W hSw => by go_simp) hD ?_
  simp only [Act.put, List.setIfInBounds_toArray, List.set_cons_zero, List.set_cons_succ]
  refine take_at 26 (some 81) (.string s) rfl rfl (by kernel_rfl) (by kernel_rfl) (by kernel_rfl) (fun _ _ _ h => h) (by rfl) (fun W hSw => by go_simp) hD ?_
  simp only [Act.put, List.setIfInBounds_toArray, List.set_cons_zero, List.set_cons_succ]
  refine take_at 27 (some 82) (.string s) rfl rfl (by kernel_rfl) (by kernel_rfl) (by kernel_rfl) (fun _ _ _ h => h) (by rfl) (fun W hSw => by go_simp) hD ?_
  simp only [Act.put, List.setIfInBounds_toArray, List.set_cons_zero, List.set_cons_succ]
  refine take_at 28 (some 83) (.bool true) rfl rfl (by kernel_rfl) (by kernel_rfl) (by kernel_rfl) (fun _ _ _ h => h) (by rfl) (fun W hSw => by go_simp) hD ?_
  simp only [Act.put, List.setIfInBounds_toArray, List.set_cons_zero, List.set_cons_succ]
  refine take_at 29 (some 84) (.bool true) rfl rfl (by kernel_rfl) (by kernel_rfl) (by kernel_rfl) (fun _ _ _ h => h) (by rfl) (fun W hSw => by go_simp) hD ?_
  simp only [Act.put, List.setIfInBounds_toArray, List.set_cons_zero, List.set_cons_succ]
  refine take_at 30 (some 85) (.bool true) rfl rfl (by kernel_rfl) (by kernel_rfl) (by kernel_rfl) (fun _ _ _ h => h) (by rfl) (fun W hSw => by go_simp) hD ?_
  simp only [Act.put, List.setIfInBounds_toArray, List.set_cons_zero, List.set_cons_succ]
  refine take_at 31 (some 86) (.int .i64 0) rfl rfl (by kernel_rfl) (by kernel_rfl) (by kernel_rfl) (fun _ _ _ h => h) (by rfl) (fun W hSw => by go_simp) hD ?_
  simp only [Act.put, List.setIfInBounds_toArray, List.set_cons_zero, List.set_cons_succ]
  refine take_at 32 (some 87) (.bool true) rfl rfl (by kernel_rfl) (by kernel_rfl) (by kernel_rfl) (fun _ _ _ h => h) (by rfl) (fun W hSw => by go_simp) hD ?_
  simp only [Act.put, List.setIfInBounds_toArray, List.set_cons_zero, List.set_cons_succ]
  refine take_at 33 (some 88) (.bool true) rfl rfl (by kernel_rfl) (by kernel_rfl) (by kernel_rfl) (fun _ _ _ h => h) (by rfl) (fun W hSw => by go_simp) hD ?_
  simp only [Act.put, List.setIfInBounds_toArray, List.set_cons_zero, List.set_cons_succ]
  refine take_at 34 (some 89) (.bool true) rfl rfl (by kernel_rfl) (by kernel_rfl) (by kernel_rfl) (fun _ _ _ h => h) (by rfl) (fun W hSw => by go_simp) hD ?_
  simp only [Act.put, List.setIfInBounds_toArray, List.set_cons_zero, List.set_cons_succ]
  refine take_at 35 (some 90) (.slice a5 0 c5) rfl rfl (by kernel_rfl) (by kernel_rfl) (by kernel_rfl) (fun _ _ _ h => h) (by rfl) (fun W hSw => by go_simp) hD ?_
  simp only [Act.put, List.setIfInBounds_toArray, List.set_cons_zero, List.set_cons_succ]
  refine take_at 36 (some 91) (.int .i64 0) rfl rfl (by kernel_rfl) (by kernel_rfl) (by kernel_rfl) (fun _ _ _ h => h) (by rfl) (fun W hSw => by go_simp) hD ?_
  simp only [Act.put, List.setIfInBounds_toArray, List.set_cons_zero, List.set_cons_succ]
  refine take_at 37 (some 92) (.bool true) rfl rfl (by kernel_rfl) (by kernel_rfl) (by kernel_rfl) (fun _ _ _ h => h) (by rfl) (fun W hSw => by go_simp) hD ?_
  simp only [Act.put, List.setIfInBounds_toArray, List.set_cons_zero, List.set_cons_succ]
  refine take_at 38 (some 93) (.bool true) rfl rfl (by kernel_rfl) (by kernel_rfl) (by kernel_rfl) (fun _ _ _ h => h) (by rfl) (fun W hSw => by go_simp) hD ?_
  simp only [Act.put, List.setIfInBounds_toArray, List.set_cons_zero, List.set_cons_succ]
  refine take_at 39 (some 6) (.bool true) rfl rfl (by kernel_rfl) (by kernel_rfl) (by kernel_rfl) (fun _ _ _ h => h) (by rfl) (fun W hSw => by go_simp) hD ?_
  simp only [Act.put, List.setIfInBounds_toArray, List.set_cons_zero, List.set_cons_succ]
  refine wpAnyH_done (by kernel_rfl) ?_ _
  refine NoPanic.normal ?_
  go_wp2
  go_ret
  exact ⟨rfl, Below.chain hbelE hD⟩

theorem walk_long (a0 : Option Addr) (n0 c0 : Nat) (s : ByteArray) (most : Int) (w : World) (hc : n0 ≤ c0) (hm : c0 ≤ maxLen) (hs : s.size ≤ maxLen) (h : 300 < n0 ∨ 300 < s.size) :
    Calls Try.prog 4 #[.slice a0 n0 c0, .string s, .int .i64 most] w fun e w' => e = .returned (.bool true) ∧ Below w.heap.size w w' := by
  unfold maxLen at hm hs
  by_cases h2 : 300 < n0
  · have h2' : (300 : Int) < (n0 : Int) := by omega
    go_enter Try.func4, Try.ntmps4
    go_wp2_with fail
    refine (known_any _).mono ?_
    rintro e w1 ⟨rfl, hbel1⟩
    go_wp2
    go_ret
    exact ⟨rfl, hbel1⟩
  · have h2' : ¬ (300 : Int) < (n0 : Int) := by omega
    have h3' : (300 : Int) < (s.size : Int) := by omega
    go_enter Try.func4, Try.ntmps4
    go_wp2_with fail
    refine (known_any _).mono ?_
    rintro e w1 ⟨rfl, hbel1⟩
    go_wp2
    go_ret
    exact ⟨rfl, hbel1⟩

theorem walk (a0 : Option Addr) (len0 cap0 : Nat) (z0 : List Int) (a1 : ByteArray) (a2 : Int) (w : World) (w0 : IsRow .u8 w a0 len0 cap0 z0) (w1 : a1.size ≤ maxLen) (w2 : (Lit.int .i64 a2).wf = true) :
    Calls Try.prog 4 #[.slice a0 len0 cap0, .string a1, .int .i64 a2] w fun e w' => e = .returned (.bool true) ∧ Below w.heap.size w w' := by
  obtain ⟨la, ha⟩ := w0.bytes
  have hx : -9223372036854775808 ≤ a2 ∧ a2 ≤ 9223372036854775807 := by simpa [Lit.wf, IntKind.min, IntKind.max, IntKind.signed, IntKind.bits] using w2
  by_cases h : 300 < len0 ∨ 300 < a1.size
  · exact walk_long a0 len0 cap0 a1 a2 w ha.2.1 ha.2.2.1 w1 h
  · exact walk_in a0 len0 cap0 a1 a2 la w ha (by omega) (by omega) hx.2

/-! ### THE ROW's STEP: WRITTEN OUT: LEAVE IT -/
set_option maxRecDepth 100000 in
theorem lifted (os : Os) (started : os.Started) (H : Type) (enc : TypeId × Value → H) :
    ReturnsInHanded {} Try.checked os 4 .any (Rows.bitsTextsSpec.pre6 enc Try.prog Try.f4 Rows.bitsTextsRow.domain false) (Rows.bitsTextsSpec.post enc Try.prog Try.f4 false true false false) := by
  refine returnsInHanded_of_change (C := Try.checked) own started (by kernel_rfl) Try.func4
    (ChangeSpec.witness6 (enc := enc) (C := Try.checked) false ⟨#[], #[.slice none 0 0, .string ByteArray.empty, .int .i64 0], []⟩ 8 (by kernel_rfl) (by kernel_rfl) (by kernel_rfl) (by kernel_rfl)) ?_
  intro W base args ds gs before hval0 hW hcnd _
  have hval : ∀ (j : Nat) t v, Try.f4.params[j]? = some t → args[j]? = some v → Value.okWide Try.prog W .any base t v := hval0
  have hW' := hW
  obtain ⟨p, q, hA0, hV, rfl, hfz, hnd⟩ := hW
  have hA : DataW.TrodAll enc Try.prog W 0 (fun _ => true) true Try.f4.params.toList args.toList ds p := hA0
  rw [Try.params4] at hA hval
  obtain ⟨v0, vs0, d0, ds0, p0, q0, hargs, rfl, rfl, h0, r0⟩ := trodAll_cons hA
  obtain ⟨v1, vs1, d1, ds1, p1, q1, rfl, rfl, rfl, h1, r1⟩ := trodAll_cons r0
  obtain ⟨v2, vs2, d2, ds2, p2, q2, rfl, rfl, rfl, h2, r2⟩ := trodAll_cons r1
  obtain ⟨rfl, rfl, rfl⟩ := trodAll_nil r2
  obtain rfl : args = #[v0, v1, v2] := by cases args; simp_all
  obtain ⟨rfl, rfl⟩ := trodVars_none hV
  obtain ⟨a0, len0, cap0, rfl⟩ := okWide_slice Try.underlying22 (hval 0 22 v0 rfl rfl)
  have k0 := h0
  have lt0 : ∀ x ∈ p0, x.block < W.heap.size := by obtain ⟨m, hm⟩ := k0; exact DataW.trod_lt m _ _ _ hm
  obtain ⟨z0, w0⟩ : ∃ zs, IsRow .u8 W a0 len0 cap0 zs := by
    obtain ⟨fuel, hf⟩ := h0
    rcases open_ints Try.underlying22 Try.underlying5 (by kernel_rfl) hf with ⟨hcs, _⟩ | ⟨x, l, c, zs, hcs, _, hl, hm, hz, _, hcell, hwz⟩
    · simp [Value.cells] at hcs
      obtain ⟨rfl, rfl, rfl⟩ := hcs
      exact ⟨[], .inl ⟨rfl, rfl, rfl, rfl⟩⟩
    · simp [Value.cells] at hcs
      obtain ⟨rfl, rfl, rfl⟩ := hcs
      exact ⟨zs, .inr ⟨_, rfl, hl, hm, by simpa using hz, hcell, hwz⟩⟩
  obtain ⟨a1, rfl, rfl, rfl, w1⟩ := open_string Try.underlying9 (hval 1 9 v1 rfl rfl) h1
  obtain ⟨a2, rfl, rfl, rfl, w2⟩ := open_int Try.underlying3 (hval 2 3 v2 rfl rfl) h2
  clear hA0 hval0
  refine (walk a0 len0 cap0 z0 a1 a2 W w0 w1 w2).mono fun e W' ⟨he, bel⟩ => ?_
  subst he
  exact ⟨_, rfl, _, _, _, [], _, [], hW', trodAll_mk1 (shut_bool Try.underlying4 _), (trodAll_cons_mk (Below.trod laidOut (by kernel_rfl) (of_decide_eq_true (by kernel_rfl)) k0 bel lt0) (trodAll_cons_mk (shut_string Try.underlying9 w1) (trodAll_cons_mk (shut_int Try.underlying3 w2) trodAll_mk0))), rfl, bel.frame _, fun h => by cases h⟩

theorem over : Rows.bitsTextsRow.holds Try.pinned (OpenSpec.ofChange Rows.bitsTextsSpec) :=
  OpenClaim.holds_of_wide 4 Try.f4 rfl rfl rfl rfl rfl rfl rfl ⟨rfl, rfl, rfl, rfl, rfl⟩ rfl rfl rfl rfl rfl (by kernel_rfl) Try.func4 (by kernel_rfl)
    (of_decide_eq_true (by kernel_rfl)) (by unfold Func.isWrapper; first | (rw [if_pos (by decide +kernel)]; kernel_rfl) | (rw [if_neg (by decide +kernel)]; exact ⟨rfl, rfl⟩))
    (fun os started H enc _ => lifted os started H enc)

/--  THE STATEMENT  -/
theorem proved : Rows.BitsTextsSaid := over
#print axioms proved
end Go.Proofs.Yteajcgodfbaeiaa.bitsTexts
