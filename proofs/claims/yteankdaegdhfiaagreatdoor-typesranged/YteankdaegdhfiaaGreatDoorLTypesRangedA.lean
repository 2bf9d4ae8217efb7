/- TypesRanged: for every input the law returns true, and its arguments read as they did: the row, and its card, tied to the program's text. Conditions: none beyond the card's own. -/
import Derived.Test.YteankdaegdhfiaaGreatDoorMT
import Derived.Test.YteankdaegdhfiaaGreatDoorMU
import Derived.Test.YteankdaegdhfiaaGreatDoorTie
import Derived.Test.YteankdaegdhfiaaGreatDoorCards
/- A range by itself is no rule: the law TypesRanged. -/
namespace Go.Proofs.YteankdaegdhfiaaGreatDoor
open Go.RowKit

/-- What is read of a text, reckoned: it can be read, its type, its place. -/
def chk (s : Str) (o : Ty) (p : Int) : Bool := decide (psE s = 0) && (match evE szG 40 (psX s) with
  | some n => decide (n ≤ 700)
  | none => false) && (evE sndG 40 (psX s) == some true) && (evE smG9 40 (psX s) == some true) && (evE tyG 40 (psX s) == some o) && decide ((psX s).p = p)
theorem chk_ok {s : Str} {o : Ty} {p : Int} (h : chk s o p = true) : psE s = 0 ∧ Sm (psX s) ∧ ofE (psX s) = o ∧ (psX s).p = p := by
  unfold chk at h
  rw [Bool.and_eq_true, Bool.and_eq_true, Bool.and_eq_true, Bool.and_eq_true, Bool.and_eq_true] at h
  obtain ⟨⟨⟨⟨⟨h1, h2⟩, h3⟩, h4⟩, h5⟩, h6⟩ := h
  have hs := evE_ok sndG 40 _ _ (beq_iff_eq.1 h3)
  have hm := evE_ok smG9 40 _ _ (beq_iff_eq.1 h4)
  have ht := evE_ok tyG 40 _ _ (beq_iff_eq.1 h5)
  refine ⟨of_decide_eq_true h1, (smB_ok _ hm).1, ?_, of_decide_eq_true h6⟩
  cases hz : evE szG 40 (psX s) with
  | none => rw [hz] at h2; cases h2
  | some n =>
    rw [hz] at h2
    exact ofE_of (isE_of (evE_ok szG 40 _ _ hz) (of_decide_eq_true h2) hs) ht
def rT : Nat → Str
  | 0 => [120, 91, 53, 116, 93]
  | n + 1 => [40] ++ rT n ++ [41]
theorem rT_len : ∀ n, (rT n).length = 5 + 2 * n
  | 0 => rfl
  | n + 1 => by rw [rT, List.length_append, List.length_append, rT_len n]; simp; omega
theorem rg_no : (List.range 10).all (fun k => chk (rT k) (3, 0, 0) k) = true := by kernel_rfl
theorem rg_yes : (List.range 10).all (fun k => chk ([45] ++ rT k) (0, (k + 1 : Nat), 90) 0) = true := by kernel_rfl
set_option maxHeartbeats 8000000 in
set_option maxRecDepth 4000 in
theorem ranged_k (n : Int) (m : Bool) (k : Nat) (_hn0 : 0 ≤ n) (_hn1 : n ≤ 255) (hk : n.tmod 10 = k) (hk2 : k < 10) (w : World) (he : Ev w) (het : Et w) : Calls Tryz.prog 11 #[.int .u8 n, .bool m] w fun e w' => e = .returned (.bool true) ∧ Below w.heap.size w w' := by
  have hkn := tknown_any w he het
  have HE : Hid (Ev w) := he
  have HT : Hid (Et w) := het
  have V0 : Hid _ := chk_ok (List.all_eq_true.1 rg_no k (List.mem_range.2 hk2))
  have V1 : Hid _ := chk_ok (List.all_eq_true.1 rg_yes k (List.mem_range.2 hk2))
  clear he het
  go_enter Tryz.func11, Tryz.ntmps11
  go_wp2_with fail
  refine hkn.mono ?_
  rintro e w1 ⟨rfl, b1⟩
  clear hkn
  go_wp2_with fail
  go_loopw [5, 6, 7] (fun t a i wr => ∃ j : Nat, j ≤ k ∧ t = tx (rT j) ∧ a = .int .i64 j ∧ i = .int .i64 j ∧ w1 = wr) (fun _ _ i _ => k - (intOf i).toNat)
  case atStart => exact ⟨0, by omega, rfl, rfl, rfl, rfl⟩
  case round =>
    obtain ⟨j, hj, rfl, rfl, rfl, rfl⟩ := hrel
    obtain ⟨R, HR⟩ : ∃ R : Str, Hid (R = rT j) := ⟨rT j, rfl⟩
    have hR : R.length ≤ 150 := by rw [HR.out, rT_len]; omega
    rw [← HR.out]
    by_cases hlt : j < k
    · have hlt' : (j : Int) < k := by omega
      go_wp2_with (refine wp_add rfl 9 9 _ _ rfl _ _ rfl rfl (by simp; omega) ?_)
      go_roundw
      case rel => exact ⟨j + 1, by omega, by rw [HR.out]; rfl, by go_num, by go_num, trivial⟩
      case measure => simp [intOf]; omega
    · have hlt' : ¬ (j : Int) < k := by omega
      have e : j = k := by omega
      subst e
      cases m with
      | false =>
        obtain ⟨e1, e2, e3, e4⟩ := V0.out
        rw [← HR.out] at e1 e2 e3 e4
        have hps := parse_any R w1 (by omega) (HE.out.later b1)
        have hof := fun lo W cs (h : Tr lo W (psX R) cs) hE => of_any h e2 hE
        have hru := fun lo W cs (h : Tr lo W (psX R) cs) hE => rule_any h e2 hE
        rw [e1] at hps
        simp only [e3] at hof hru
        simp only [ruE] at hru
        simp only [e4] at hru
        clear V0 V1 HR e1 e2 e3 e4
        generalize psX R = X at *
        generalize psA R = A at *
        go_wp2_with fail
        refine hps.mono ?_
        rintro e w2 ⟨cs, rfl, t2, b2⟩
        have row := t2.row
        have q0 := heap_new w2 (.cells zE 29)
        have Ba := bal (Below.refl w2.heap.size w2) (.cells zE 29)
        have B2 := b1.trans (b2.mono b1.size)
        clear hps
        go_wp2_with (first | (refine wp_put rfl 29 _ _ rfl w2.heap.size cs rfl rfl _ 29 q0 13 inf29 rfl row ?_; intro w3 q3 o3 z3; clear z3) | (refine wp_get rfl 29 _ rfl w2.heap.size cs 29 rfl q3 _ Tryz.underlying29 rfl 13 inf29 row.1 ?_))
        have D3 := ((Off.of Ba []).trans o3 (by simp)).below (by simp)
        have B3 := B2.trans (D3.mono B2.size)
        refine (hru _ w3 cs (TrP.later t2 D3) (HT.out.later B3)).mono ?_
        rintro e w4 ⟨rfl, b4⟩
        have q4 := below_heap b4 q3
        have D4 := D3.trans (b4.mono D3.size)
        have B4 := B3.trans (b4.mono B3.size)
        clear hru q0 Ba o3
        go_wp2_with (refine wp_get rfl 29 _ rfl w2.heap.size cs 29 rfl q4 _ Tryz.underlying29 rfl 13 inf29 row.1 ?_)
        refine (hof _ w4 cs (TrP.later t2 D4) (HT.out.later B4)).mono ?_
        rintro e w5 ⟨rfl, b5⟩
        have B5 := B4.trans (b5.mono B4.size)
        clear hof D4 D3
        go_wp2_with fail
        go_ret
        exact ⟨by simp, B5⟩
      | true =>
        obtain ⟨e1, e2, e3, _⟩ := V1.out
        rw [← HR.out] at e1 e2 e3
        obtain ⟨U, HU⟩ : ∃ U : Str, Hid ([45] ++ R = U) := ⟨[45] ++ R, rfl⟩
        have hU : U.length ≤ 160 := by rw [← HU.out]; simp; omega
        rw [HU.out] at e1 e2 e3
        have hps := parse_any U w1 (by omega) (HE.out.later b1)
        have hof := fun lo W cs (h : Tr lo W (psX U) cs) hE => of_any h e2 hE
        have hru := fun lo W cs (h : Tr lo W (psX U) cs) hE => rule_any h e2 hE
        rw [e1] at hps
        simp only [e3] at hof hru
        simp only [ruE] at hru
        clear V0 V1 HR e1 e2 e3
        generalize psX U = X at *
        generalize psA U = A at *
        go_wp2_with (refine wp_add rfl 9 9 _ _ rfl _ _ rfl rfl (by simp; omega) ?_; rw [HU.out])
        refine hps.mono ?_
        rintro e w2 ⟨cs, rfl, t2, b2⟩
        have row := t2.row
        have q0 := heap_new w2 (.cells zE 29)
        have Ba := bal (Below.refl w2.heap.size w2) (.cells zE 29)
        have B2 := b1.trans (b2.mono b1.size)
        clear hps
        go_wp2_with (first | (refine wp_put rfl 29 _ _ rfl w2.heap.size cs rfl rfl _ 29 q0 13 inf29 rfl row ?_; intro w3 q3 o3 z3; clear z3) | (refine wp_get rfl 29 _ rfl w2.heap.size cs 29 rfl q3 _ Tryz.underlying29 rfl 13 inf29 row.1 ?_))
        have D3 := ((Off.of Ba []).trans o3 (by simp)).below (by simp)
        have B3 := B2.trans (D3.mono B2.size)
        refine (hru _ w3 cs (TrP.later t2 D3) (HT.out.later B3)).mono ?_
        rintro e w4 ⟨rfl, b4⟩
        have q4 := below_heap b4 q3
        have D4 := D3.trans (b4.mono D3.size)
        have B4 := B3.trans (b4.mono B3.size)
        clear hru q0 Ba o3
        go_wp2_with (refine wp_get rfl 29 _ rfl w2.heap.size cs 29 rfl q4 _ Tryz.underlying29 rfl 13 inf29 row.1 ?_)
        refine (hof _ w4 cs (TrP.later t2 D4) (HT.out.later B4)).mono ?_
        rintro e w5 ⟨rfl, b5⟩
        have B5 := B4.trans (b5.mono B4.size)
        clear hof D4 D3
        go_wp2_with fail
        go_ret
        exact ⟨by simp, B5⟩
theorem ranged_any (n : Nat) (m : Bool) (w : World) (hn : n ≤ 255) (he : Ev w ∧ Et w) : Calls Tryz.prog 11 #[.int .u8 n, .bool m] w fun e w' => e = .returned (.bool true) ∧ Below w.heap.size w w' :=
  ranged_k n m (n % 10) (by omega) (by omega) (by rw [Int.tmod_eq_emod_of_nonneg (by omega)]; omega) (by omega) w he.1 he.2
end Go.Proofs.YteankdaegdhfiaaGreatDoor
/- TypesRanged: for every input the law returns true, and its arguments read as they did: the row, and its card, tied to the program's text. Conditions: none beyond the card's own. -/
namespace Go.Proofs.YteankdaegdhfiaaGreatDoor.typesRangedRow
open Go.ChangeShapes Go.WideShapes Go.ChangeAt Go.RowKit Go.Joins Go.ChangeMaps

theorem own : ownKnob Tryz.prog.godebug = none := by kernel_rfl
set_option maxRecDepth 100000 in
theorem lifted (os : Os) (started : os.Started) (H : Type) (enc : TypeId × Value → H) :
    ReturnsInHanded {} Tryz.checked os 11 .any (fun w args => (Rows.typesRangedSpec.pre enc Tryz.prog Tryz.f11 Rows.typesRangedRow.domain false w args ∧ laidMetH Tryz.prog Rows.typesRangedRow.laid w) ∧ sizedMet enc Tryz.prog Tryz.f11 (OpenSpec.ofChange Rows.typesRangedSpec) false w args)
      (Rows.typesRangedSpec.post enc Tryz.prog Tryz.f11 false true false false) := by
  refine lift_env (fun _ _ _ hh h => h.of_heap hh) (C := Tryz.checked) (X := fun w _ => laidMetH Tryz.prog Rows.typesRangedRow.laid w) own started (by kernel_rfl) Tryz.func11
    (ChangeSpec.witness_shaped (enc := enc) (C := Tryz.checked) (os := os) (X := fun w _ => laidMetH Tryz.prog Rows.typesRangedRow.laid w) false (wL Tryz.prog os 183 (.pointer (some ⟨9, 93, none⟩)) Rows.typesRangedRow.laid) #[.int .u8 0, .bool false] 8 (wL_os _ _ _ _ _)
      (World.shaped_of_ZipB (by kernel_rfl) (by kernel_rfl)) (by kernel_rfl) (by kernel_rfl) (by kernel_rfl)
      (wL_met _ (by kernel_rfl) (by kernel_rfl) (by kernel_rfl))) ?_
  intro W base args ds gs before hval0 hW hsh hL
  have hval : ∀ (j : Nat) t v, Tryz.f11.params[j]? = some t → args[j]? = some v → Value.okWide Tryz.prog W .any base t v := hval0
  have hW' := hW
  obtain ⟨p, q, hA0, hV, rfl, hfz, hnd⟩ := hW
  have hA : DataW.TrodAll enc Tryz.prog W 0 (fun _ => true) true Tryz.f11.params.toList args.toList ds p := hA0
  rw [Tryz.params11] at hA hval
  obtain ⟨v0, vs0, d0, ds0, p0, q0, hargs, rfl, rfl, h0, r0⟩ := trodAll_cons hA
  obtain ⟨v1, vs1, d1, ds1, p1, q1, rfl, rfl, rfl, h1, r1⟩ := trodAll_cons r0
  obtain ⟨rfl, rfl, rfl⟩ := trodAll_nil r1
  obtain rfl : args = #[v0, v1] := by cases args; simp_all
  obtain ⟨rfl, rfl⟩ := trodVars_none hV
  obtain ⟨n0, rfl, rfl, rfl, w0⟩ := open_int Tryz.underlying5 (hval 0 5 v0 rfl rfl) h0
  have b0 : 0 ≤ n0 ∧ n0 ≤ 255 := by simpa [Lit.wf, IntKind.min, IntKind.max, IntKind.signed, IntKind.bits] using w0
  obtain ⟨N0, rfl⟩ : ∃ N : Nat, n0 = N := ⟨n0.toNat, by omega⟩
  obtain ⟨x1, rfl, rfl, rfl⟩ := open_bool Tryz.underlying4 (hval 1 4 v1 rfl rfl) h1
  clear hA0 hval0
  simp only [List.append_nil] at hW'
  refine (ranged_any N0 x1 W (by omega)   (env_ty hsh hL)).mono fun e W' ⟨he, hg⟩ => ?_
  subst he
  exact ⟨_, rfl, _, _, _, [], [], [], hW', trodAll_mk1 (shut_bool Tryz.underlying4 _), (trodAll_cons_mk (shut_int Tryz.underlying5 w0) (trodAll_cons_mk (shut_bool Tryz.underlying4 _) trodAll_mk0)), rfl, hg.frame _, fun h => by cases h⟩

theorem c1 : Rows.typesRangedRow.inPlace = Tryz.prog.inPlace 11 := by kernel_rfl
theorem c2 : Rows.typesRangedRow.unfollowed = Tryz.prog.unfollowed 11 := by kernel_rfl
theorem c3 : Rows.typesRangedRow.recurses = Tryz.prog.recurses 11 := by kernel_rfl
theorem c4 : Rows.typesRangedRow.named = Tryz.prog.varsNamed 11 := by kernel_rfl
theorem facts : joinedFacts Tryz.prog 11 Tryz.f11 Rows.typesRangedSpec Rows.typesRangedRow = true := by
  unfold joinedFacts
  rw [← c1, ← c2, ← c3, ← c4]
  kernel_rfl
theorem wraps : Tryz.f11.isWrapper Tryz.prog Rows.typesRangedRow.wrapper Rows.typesRangedRow.mainSum := by unfold Func.isWrapper; first | (rw [if_pos (by decide +kernel)]; kernel_rfl) | (rw [if_neg (by decide +kernel)]; exact ⟨rfl, rfl⟩)
theorem inst : Tryz.f11.isInstance Tryz.prog Rows.typesRangedRow.origin Rows.typesRangedRow.targs := of_decide_eq_true (by kernel_rfl)
theorem goes : false = Rows.typesRangedRow.goesBy Tryz.prog := by kernel_rfl
theorem text : Rows.typesRangedRow.wfByText (OpenSpec.ofChange Rows.typesRangedSpec) = true := by kernel_rfl
theorem looks : true = Tryz.prog.looks [] := by kernel_rfl
theorem holds : Rows.TypesRangedSaid :=
  OpenClaim.holds_of_wide 11 Tryz.f11 rfl rfl rfl rfl rfl rfl rfl ⟨rfl, rfl, rfl, rfl, rfl⟩ rfl rfl rfl rfl rfl (by kernel_rfl) Tryz.func11 facts inst wraps (fun os started H enc _ => lifted os started H enc)
end Go.Proofs.YteankdaegdhfiaaGreatDoor.typesRangedRow
namespace Go.Proofs.YteankdaegdhfiaaGreatDoor
open Go
theorem typesRanged_card : Rows.TypesRangedCardSaid :=
  Claim7.holds_tied_plain_at .later [] [.data, .data, .data, .data, .handle, .sentinel, .sentinel, .pinned] true (true, "fc8e6130e7cffdc4306bfdd31a4c3f023174449f413e0b6ecd463494529c6174") true typesRangedRow.holds (fun _ h => by cases h) typesRangedRow.text (fun _ h => by cases h) typesRanged_row_tie rfl ⟨rfl, rfl⟩ (by kernel_rfl) rfl
    (fun f fn hf hfn => by
      obtain rfl : f = 11 := Option.some.inj ((show Tryz.prog.funcNamed "spillway/spillwaylaw9.TypesRanged" = some 11 by kernel_rfl).symm.trans hf) |>.symm
      obtain rfl : fn = Tryz.f11 := (Option.some.inj (Tryz.func11.symm.trans hfn)).symm
      exact ⟨typesRangedRow.looks, fun j t ht => by
        rw [Tryz.params11] at ht
        have hm : t ∈ [5, 4] := by simpa using Array.mem_of_getElem? ht
        have hall : ([5, 4].all fun u => !Tryz.prog.wantsStandIn u) = true := by kernel_rfl
        exact (show Tryz.prog.wantsStandIn t = false by simpa using List.all_eq_true.1 hall t hm)⟩)
    typesRangedRow.goes
end Go.Proofs.YteankdaegdhfiaaGreatDoor
