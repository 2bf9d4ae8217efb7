/-
  PROVED: for every number, every text and every cut the law BitsCut of the program at this commit answers true and leaves its input as it was: numbers and texts cut off are too short, and nothing is read; longer than most is too long. No condition.
-/
import Derived.Test.YteajcgodfbaeiaaRows
import Derived.Test.YteajcgodfbaeiaaBack
import Derived.WalkKit
import Derived.ProofKit
import Derived.OpenShut
import Derived.ShutString
import Derived.ChangeOld
import Derived.Below
namespace Go.Proofs.Yteajcgodfbaeiaa.bitsCut
open Go.ChangeShapes Go.WideShapes Go.ChangeAt Go.RowKit
open Go.ChangeMaps (open_string shut_string)
set_option linter.unusedVariables false      -- a walk need not use every 'w<i>' (that an integer argument fits its kind)

theorem own : ownKnob Try.prog.godebug = none := by kernel_rfl

theorem cut_headI (ao : Option Addr) (n cap k : Nat) (i : Int) (hi : i = (k : Int)) (h : k ≤ cap) (w : World) : (Instr.slice 22 (.slice ao n cap) none (some (.int .i64 i)) none).run Try.prog w = .ok (.slice (cutA ao cap 0) k cap) w := by
  subst hi
  exact cut_head ao n cap k h w

set_option maxHeartbeats 1000000 in
theorem walk_in (x : Nat) (s : ByteArray) (c : Nat) (hx : x < 18446744073709551616) (hs : s.size ≤ 100) (hc : c < 256) (w : World) :
    Calls Try.prog 8 #[.int .u64 x, .string s, .int .u8 c] w fun e w' => e = .returned (.bool true) ∧ Below w.heap.size w w' := by
  have hs' : ¬ (100 : Int) < (s.size : Int) := by omega
  go_enter Try.func8, Try.ntmps8
  go_wp2_with fail
  refine (known_any _).mono ?_
  rintro e w1 ⟨rfl, hbel1⟩
  go_wp2_with fail
  refine (put_any none 0 0 x 8 [] w1 (Bs.nil _) (by decide)).mono ?_
  rintro e w2 ⟨ao2, m2, c2, rfl, hb2, hbel2⟩
  have hm2 : 8 = m2 := hb2.1
  subst hm2
  have hc2 := hb2.2.1
  have c1 := cut_headI ao2 8 c2 (c % 8) ((c : Int) % 8) (by omega) (by omega)
  have hb3 := hb2.head (c % 8) (by omega)
  have hbelA := Below.chain hbel1 hbel2
  clear hbel1 hbel2
  go_wp2_with fail
  refine (get_short _ _ _ 8 _ w2 hb3 (by omega) (by show c % 8 < 8; omega)).mono ?_
  rintro e w3 ⟨ao3, m3, c3, rfl, hb4, hbel3⟩
  obtain rfl : c % 8 = m3 := hb3.1.symm.trans hb4.1
  have hbelB := Below.chain hbelA hbel3
  clear hbelA hbel3
  go_wp2_with fail
  refine (text_any none 0 0 s [] w3 (Bs.nil _) (by decide) (by omega)).mono ?_
  rintro e w4 ⟨ao4, m4, c4, rfl, hb5, hbel4⟩
  have hbelC := Below.chain hbelB hbel4
  have hm4 : m4 = s.size + 2 := by
    have := hb5.1
    rw [List.nil_append, List.length_append, low_length, str_len] at this
    omega
  clear hbelB hbel4
  rw [List.nil_append] at hb5
  have hc4 := hb5.2.1
  subst hm4
  have hb6 := hb5.head (c % (s.size + 2)) (by have := Nat.mod_lt c (show 0 < s.size + 2 by omega); omega)
  have hj : c % (s.size + 2) < s.size + 2 := Nat.mod_lt c (by omega)
  have cB := cut_headI ao4 (s.size + 2) c4 (c % (s.size + 2)) ((c : Int) % ((s.size : Int) + 2)) (by simp) (by omega)
  go_wp2_with fail
  refine (text_cut _ _ _ s w4 hs hb6 hj).mono ?_
  rintro e w5 ⟨ao5, c5, rfl, hbel5⟩
  have hb7 := hb5.later hbel5
  have hbelD := Below.chain hbelC hbel5
  clear hbelC hbel5
  go_wp2_with fail
  refine (text_long _ _ _ s w5 hs hb7).mono ?_
  rintro e w6 ⟨ao6, m6, c6, rfl, hbel6⟩
  have hb8 := hb7.later hbel6
  have hbelE := Below.chain hbelD hbel6
  clear hbelD hbel6
  rw [← List.append_nil s.data.toList] at hb8
  go_wp2_with fail
  refine (text_back _ _ _ s [] _ w6 (by omega) hb8 (by omega) (by omega)).mono ?_
  rintro e w7 ⟨ao7, m7, c7, rfl, hb9, hbel7⟩
  obtain rfl : 0 = m7 := hb9.1
  have hbelF := Below.chain hbelE hbel7
  clear hbelE hbel7
  go_wp2
  go_ret
  exact ⟨rfl, hbelF⟩

theorem walk_long (x : Int) (s : ByteArray) (c : Int) (hm : s.size ≤ maxLen) (hs : 100 < s.size) (w : World) :
    Calls Try.prog 8 #[.int .u64 x, .string s, .int .u8 c] w fun e w' => e = .returned (.bool true) ∧ Below w.heap.size w w' := by
  unfold maxLen at hm
  have hs' : (100 : Int) < (s.size : Int) := by omega
  go_enter Try.func8, Try.ntmps8
  go_wp2_with fail
  refine (known_any _).mono ?_
  rintro e w1 ⟨rfl, hbel1⟩
  go_wp2
  go_ret
  exact ⟨rfl, hbel1⟩

theorem walk (a0 : Int) (a1 : ByteArray) (a2 : Int) (w0 : (Lit.int .u64 a0).wf = true) (w1 : a1.size ≤ maxLen) (w2 : (Lit.int .u8 a2).wf = true) (w : World) :
    Calls Try.prog 8 #[.int .u64 a0, .string a1, .int .u8 a2] w fun e w' => e = .returned (.bool true) ∧ Below w.heap.size w w' := by
  have hx : 0 ≤ a0 ∧ a0 ≤ 18446744073709551615 := by simpa [Lit.wf, IntKind.min, IntKind.max, IntKind.signed, IntKind.bits] using w0
  have hc : 0 ≤ a2 ∧ a2 ≤ 255 := by simpa [Lit.wf, IntKind.min, IntKind.max, IntKind.signed, IntKind.bits] using w2
  by_cases hs : 100 < a1.size
  · exact walk_long a0 a1 a2 w1 hs w
  · obtain ⟨x, rfl⟩ := Int.eq_ofNat_of_zero_le hx.1
    obtain ⟨c, rfl⟩ := Int.eq_ofNat_of_zero_le hc.1
    exact walk_in x a1 c (by omega) (by omega) (by omega) w

/-! ### THE ROW's STEP: WRITTEN OUT: LEAVE IT -/
set_option maxRecDepth 100000 in
theorem lifted (os : Os) (started : os.Started) (H : Type) (enc : TypeId × Value → H) :
    ReturnsInHanded {} Try.checked os 8 .any (Rows.bitsCutSpec.pre6 enc Try.prog Try.f8 Rows.bitsCutRow.domain false) (Rows.bitsCutSpec.post enc Try.prog Try.f8 false true false false) := by
  refine returnsInHanded_of_change (C := Try.checked) own started (by kernel_rfl) Try.func8
    (ChangeSpec.witness6 (enc := enc) (C := Try.checked) false ⟨#[], #[.int .u64 0, .string ByteArray.empty, .int .u8 0], []⟩ 8 (by kernel_rfl) (by kernel_rfl) (by kernel_rfl) (by kernel_rfl)) ?_
  intro W base args ds gs before hval0 hW hcnd _
  have hval : ∀ (j : Nat) t v, Try.f8.params[j]? = some t → args[j]? = some v → Value.okWide Try.prog W .any base t v := hval0
  have hW' := hW
  obtain ⟨p, q, hA0, hV, rfl, hfz, hnd⟩ := hW
  have hA : DataW.TrodAll enc Try.prog W 0 (fun _ => true) true Try.f8.params.toList args.toList ds p := hA0
  rw [Try.params8] at hA hval
  obtain ⟨v0, vs0, d0, ds0, p0, q0, hargs, rfl, rfl, h0, r0⟩ := trodAll_cons hA
  obtain ⟨v1, vs1, d1, ds1, p1, q1, rfl, rfl, rfl, h1, r1⟩ := trodAll_cons r0
  obtain ⟨v2, vs2, d2, ds2, p2, q2, rfl, rfl, rfl, h2, r2⟩ := trodAll_cons r1
  obtain ⟨rfl, rfl, rfl⟩ := trodAll_nil r2
  obtain rfl : args = #[v0, v1, v2] := by cases args; simp_all
  obtain ⟨rfl, rfl⟩ := trodVars_none hV
  obtain ⟨a0, rfl, rfl, rfl, w0⟩ := open_int Try.underlying23 (hval 0 23 v0 rfl rfl) h0
  obtain ⟨a1, rfl, rfl, rfl, w1⟩ := open_string Try.underlying9 (hval 1 9 v1 rfl rfl) h1
  obtain ⟨a2, rfl, rfl, rfl, w2⟩ := open_int Try.underlying5 (hval 2 5 v2 rfl rfl) h2
  clear hA0 hval0
  simp only [List.append_nil] at hW'
  refine (walk a0 a1 a2 w0 w1 w2 W).mono fun e W' ⟨he, hg⟩ => ?_
  subst he
  exact ⟨_, rfl, _, _, _, [], [], [], hW', trodAll_mk1 (shut_bool Try.underlying4 _), (trodAll_cons_mk (shut_int Try.underlying23 w0) (trodAll_cons_mk (shut_string Try.underlying9 w1) (trodAll_cons_mk (shut_int Try.underlying5 w2) trodAll_mk0))), rfl, hg.frame _, fun h => by cases h⟩

theorem over : Rows.bitsCutRow.holds Try.pinned (OpenSpec.ofChange Rows.bitsCutSpec) :=
  OpenClaim.holds_of_wide 8 Try.f8 rfl rfl rfl rfl rfl rfl rfl ⟨rfl, rfl, rfl, rfl, rfl⟩ rfl rfl rfl rfl rfl (by kernel_rfl) Try.func8 (by kernel_rfl)
    (of_decide_eq_true (by kernel_rfl)) (by unfold Func.isWrapper; first | (rw [if_pos (by decide +kernel)]; kernel_rfl) | (rw [if_neg (by decide +kernel)]; exact ⟨rfl, rfl⟩))
    (fun os started H enc _ => lifted os started H enc)

/-- The statement. -/
theorem proved : Rows.BitsCutSaid :=
  over
#print axioms proved
end Go.Proofs.Yteajcgodfbaeiaa.bitsCut
