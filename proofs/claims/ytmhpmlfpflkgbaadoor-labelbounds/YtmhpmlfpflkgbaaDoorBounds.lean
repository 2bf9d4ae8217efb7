/- LabelBounds: the walk. -/
import Derived.Test.YtmhpmlfpflkgbaaDoorKnown
import Derived.Laws.Small
namespace Go.Proofs.YtmhpmlfpflkgbaaDoor
open Go.RowKit

/-- The pairs a, b, c .. each of the value x. -/
def abc (k : Nat) : List Pr := (List.range k).map fun i => ([97 + UInt8.ofNat i], [120])
theorem abc_succ (k : Nat) : abc (k + 1) = abc k ++ [([97 + UInt8.ofNat k], [120])] := by simp [abc, List.range_succ]
theorem abc_len (k : Nat) : (abc k).length = k := by simp [abc]
theorem abc_make (k : Nat) (hk : k < 12) : (makeE (abc k) = if k ≤ 8 then 0 else 30) ∧ (k ≤ 8 → (makeL (abc k)).length = k) := by
  have h : k = 0 ∨ k = 1 ∨ k = 2 ∨ k = 3 ∨ k = 4 ∨ k = 5 ∨ k = 6 ∨ k = 7 ∨ k = 8 ∨ k = 9 ∨ k = 10 ∨ k = 11 := by omega
  rcases h with rfl | rfl | rfl | rfl | rfl | rfl | rfl | rfl | rfl | rfl | rfl | rfl <;> decide +kernel
theorem abc_fit (k : Nat) : Fit (abc k) := fun p hp => by
  unfold abc at hp
  obtain ⟨i, _, rfl⟩ := List.mem_map.1 hp
  simp
def qs (j : Nat) : Str := List.replicate j 113
def ws (v : Nat) : Str := List.replicate v 119
theorem qs_name (j : Nat) (hj : j < 25) : fName (qs j) = decide (1 ≤ j ∧ j ≤ 20) := by
  have : ∀ j : Fin 25, fName (qs j) = decide (1 ≤ j.val ∧ j.val ≤ 20) := by decide +kernel
  exact this ⟨j, hj⟩
theorem ws_val (v : Nat) (hv : v < 35) : fVal (ws v) = decide (1 ≤ v ∧ v ≤ 30) := by
  have : ∀ v : Fin 35, fVal (ws v) = decide (1 ≤ v.val ∧ v.val ≤ 30) := by decide +kernel
  exact this ⟨v, hv⟩
def fine (j v : Nat) : Bool := decide (v = 0) || decide (1 ≤ j ∧ j ≤ 20) && decide (v ≤ 30)
theorem one_make (j v : Nat) (hj : j < 25) (hv : v < 35) : (makeE [(qs j, ws v)] = if fine j v = true then 0 else 30) ∧ (fine j v = true → (makeL [(qs j, ws v)]).length = min v 1) := by
  have ht : twice [(qs j, ws v)] = false := by simp [twice]
  by_cases h0 : v = 0
  · subst h0
    have hf : full [(qs j, ws 0)] = [] := by simp [full, ws]
    have he : makeE [(qs j, ws 0)] = 0 := by unfold makeE; rw [ht, hf]; decide
    have hfi : fine j 0 = true := by simp [fine]
    rw [he, hfi]
    refine ⟨rfl, fun _ => ?_⟩
    unfold makeL
    rw [he, hf]
    rfl
  · have hf : full [(qs j, ws v)] = [(qs j, ws v)] := by simp [full, ws, h0]
    have hs : srt [(qs j, ws v)] = [(qs j, ws v)] := rfl
    have hI : fIs [(qs j, ws v)] = fine j v := by
      rw [Bool.eq_iff_iff, is_iff]
      have e1 := qs_name j hj
      have e2 := ws_val v hv
      simp [e1, e2, fine, h0, rises]
      omega
    have he : makeE [(qs j, ws v)] = if fine j v = true then 0 else 30 := by
      unfold makeE
      rw [ht, hf, hs, hI]
      rfl
    refine ⟨he, fun h => ?_⟩
    unfold makeL
    rw [he, if_pos h, if_pos rfl, hf, hs]
    simp
    omega
theorem qs_succ (j : Nat) : (⟨(qs j).toArray⟩ : ByteArray) ++ ⟨#[113]⟩ = ⟨(qs (j + 1)).toArray⟩ := by
  rw [show qs (j + 1) = qs j ++ [113] from List.replicate_succ']
  exact ba_append _ _
theorem ws_succ (j : Nat) : (⟨(ws j).toArray⟩ : ByteArray) ++ ⟨#[119]⟩ = ⟨(ws (j + 1)).toArray⟩ := by
  rw [show ws (j + 1) = ws j ++ [119] from List.replicate_succ']
  exact ba_append _ _
theorem letter (i : Nat) (hi : i < 12) : ((97 + UInt8.ofNat i).toNat : Int) = 97 + (i : Int) := by
  have : ∀ i : Fin 12, ((97 + UInt8.ofNat i.val).toNat : Int) = 97 + (i.val : Int) := by decide +kernel
  exact this ⟨i, hi⟩
theorem conv_letter (w : World) (i : Nat) (hi : i < 12) : (convert 42 9 (.slice (some ⟨w.heap.size, 0, none⟩) 1 1)).run Tryd.prog (w.alloc (.cells #[.int .u8 (97 + (i : Int))] 5)) = .ok (tx [97 + UInt8.ofNat i]) (w.alloc (.cells #[.int .u8 (97 + (i : Int))] 5)) := by
  refine run_convert_bytes_back (w.alloc (.cells #[.int .u8 (97 + (i : Int))] 5)) 42 9 5 ⟨w.heap.size, 0, none⟩ 1 [97 + UInt8.ofNat i] Tryd.underlying42 Tryd.underlying5 Tryd.underlying9 (fun j hj => ?_)
  obtain rfl : j = 0 := by simpa using hj
  rw [Addr.add_lit]
  simp only [List.getElem_cons_zero]
  rw [letter i hi]
  exact World.cell?_alloc_new w _ _ 0

set_option maxRecDepth 200000 in
set_option maxHeartbeats 10000000 in
theorem bounds_walk (n0 n1 n2 : Int) (w : World) (h0 : 0 ≤ n0 ∧ n0 ≤ 255) (h1 : 0 ≤ n1 ∧ n1 ≤ 255) (h2 : 0 ≤ n2 ∧ n2 ≤ 255) (hM : Mx w) :
    Calls Tryd.prog 7 #[.int .u8 n0, .int .u8 n1, .int .u8 n2] w fun e w' => e = .returned (.bool true) ∧ Below w.heap.size w w' := by
  obtain ⟨i0, hi, hz0, hz1, hz2⟩ := info_parts35
  have hknown := known_any w hM
  obtain ⟨k, hk, ek⟩ : ∃ k : Nat, k < 12 ∧ n0 % 12 = k := ⟨(n0 % 12).toNat, by omega, by omega⟩
  obtain ⟨j, hj, ej⟩ : ∃ j : Nat, j < 25 ∧ n1 % 25 = j := ⟨(n1 % 25).toNat, by omega, by omega⟩
  obtain ⟨v, hv, ev⟩ : ∃ v : Nat, v < 35 ∧ n2 % 35 = v := ⟨(n2 % 35).toNat, by omega, by omega⟩
  have hA : Hid _ := abc_make k hk
  have hO : Hid _ := one_make j v hj hv
  have hmA := fun (W : World) (xa : Option Addr) (d : Nat) (h : Ps W xa (abc k).length (abc k)) => make_any xa (abc k).length d (abc k) W (by rw [abc_len]; omega) (abc_fit k) h
  have hql : (qs j).length = j := by simp [qs]
  have hwl : (ws v).length = v := by simp [ws]
  have hfo : Fit [(qs j, ws v)] := fun p hp => by
    simp at hp
    subst hp
    exact ⟨by rw [hql]; omega, by rw [hwl]; omega⟩
  have hmO := fun (W : World) => make_any _ 1 1 _ _ (by omega) hfo (Ps.one W (qs j, ws v))
  have hnm := fun (W : World) => name_any (qs j) W (by omega)
  rw [qs_name j hj] at hnm
  go_enter Tryd.func7, Tryd.ntmps7
  go_wp2_with fail
  refine hknown.mono ?_
  rintro e w1 ⟨rfl, hb1⟩
  go_wp2_with fail
  simp only [ek, ej, ev]
  clear ek ej ev
  go_loopw [11, 10] (fun i u wr => ∃ (m : Nat) (p : Value), m ≤ k ∧ i = .int .i64 m ∧ p = u ∧ Own wr w.heap.size p (abc m) ∧ Below w.heap.size w wr) (fun i _ _ => k - (intOf i).toNat)
  case atStart => exact ⟨0, _, by omega, rfl, rfl, Own.none _ _, hb1⟩
  case round =>
    obtain ⟨m, p, hm, rfl, rfl, ho, hb⟩ := hrel
    by_cases hlt : m < k
    · have hcv := conv_letter wr m (by omega)
      have HS : Hid (abc (m + 1) = abc m ++ [([97 + UInt8.ofNat m], [120])]) := abc_succ m
      have hml := abc_len m
      have hbo := bal (bal hb (.cells #[.int .u8 (97 + (m : Int))] 5)) (.cells #[tx [97 + UInt8.ofNat m], tx [120]] 35)
      have ho2 := (ho.later (bal (Below.refl _ _) (.cells #[.int .u8 (97 + (m : Int))] 5))).later (bal (Below.refl _ _) (.cells #[tx [97 + UInt8.ofNat m], tx [120]] 35))
      have hbx := Box.new (wr.alloc (.cells #[.int .u8 (97 + (m : Int))] 5)) ([97 + UInt8.ofNat m], [120])
      clear hA hO hmA hmO hnm hknown hfo
      go_wp2_with (at_builtin; go_must (refine wpList_append_own _ rfl _ _ 23 rfl w.heap.size 35 i0 (.agg #[tx [], tx []]) 2 32 Tryd.underlying23 hi hz0 hz1 hz2 zero35 (by decide) _ _ _ rfl ho2 ⟨(wr.alloc (.cells #[.int .u8 (97 + (m : Int))] 5)).heap.size, 0, none⟩ 1 1 (cellsP [([97 + UInt8.ofNat m], [120])]) ?hx rfl hbx.cells (cellsP_one _) ?h63 ?hby hbo.size ?_))
      case h63 => unfold maxLen; omega
      case hby => omega
      intro v' w7 ho7 hg7 _
      go_wp2
      go_roundw
      case rel => exact ⟨m + 1, _, by omega, by go_num, rfl, by rw [HS.out]; exact Own.snoc (by rw [abc_len]; exact ho7), hbo.grown hg7 hbo.size (fun k hk => (World.ownsRow.lt ho2 k hk).1)⟩
      case measure => simp [intOf]; omega
    · obtain rfl : m = k := by omega
      obtain ⟨a1, c1, rfl, p1⟩ := ho.fitN
      clear hb1
      go_wp2_with fail
      refine (hmA wr a1 c1 p1).mono ?_
      rintro e w2 ⟨v2, rfl, ho2, hb2⟩
      have B2 : Below w.heap.size w w2 := hb.trans (hb2.mono hb.size)
      obtain ⟨a2, c2, rfl, p2⟩ := ho2.fitN
      clear hmA hb hb2 ho2 ho p1 hknown
      go_wp2_with fail
      go_loop [16, 14] (fun i s => ∃ x : Nat, x ≤ j ∧ i = .int .i64 x ∧ s = tx (qs x)) (fun i _ => j - (intOf i).toNat)
      case atStart => exact ⟨0, by omega, rfl, rfl⟩
      case round =>
        obtain ⟨x, hx, rfl, rfl⟩ := hrel
        by_cases hlt : x < j
        · have hap := qs_succ x
          have hxl : (qs x).length ≤ 25 := by simp [qs]; omega
          go_wp2
          go_round
          case rel => exact ⟨x + 1, by omega, by go_num, rfl⟩
          case measure => simp [intOf]; omega
        · obtain rfl : x = j := by omega
          go_wp2_with fail
          go_loop [17, 15] (fun i s => ∃ y : Nat, y ≤ v ∧ i = .int .i64 y ∧ s = tx (ws y)) (fun i _ => v - (intOf i).toNat)
          case atStart => exact ⟨0, by omega, rfl, rfl⟩
          case round =>
            obtain ⟨y, hy, rfl, rfl⟩ := hrel
            by_cases hlt : y < v
            · have hap := ws_succ y
              have hyl : (ws y).length ≤ 35 := by simp [ws]; omega
              go_wp2
              go_round
              case rel => exact ⟨y + 1, by omega, by go_num, rfl⟩
              case measure => simp [intOf]; omega
            · obtain rfl : y = v := by omega
              go_wp2_with fail
              refine (hmO w2).mono ?_
              rintro e w3 ⟨v3, rfl, ho3, hb3⟩
              have B3 : Below w.heap.size w w3 := Below.chain (Below.chain B2 (bal (Below.refl _ _) _)) hb3
              obtain ⟨a3, c3, rfl, p3⟩ := ho3.fitN
              obtain ⟨hE1, hL1⟩ := hA.out
              obtain ⟨hE2, hL2⟩ := hO.out
              clear hmO hb3 ho3 p3 B2 p2 hfo hql hwl
              have hk2 : m ≤ 8 ∨ 8 < m := by omega
              have hv3 : y = 0 ∨ (1 ≤ y ∧ y ≤ 30) ∨ 30 < y := by omega
              have hj3 : x = 0 ∨ (1 ≤ x ∧ x ≤ 20) ∨ 20 < x := by omega
              rcases hk2 with hk2 | hk2 <;> rcases hv3 with hv3 | hv3 | hv3 <;> rcases hj3 with hj3 | hj3 | hj3
              · subst hv3
                subst hj3
                have hf : fine 0 0 = true := by unfold fine; simp
                have e1 : makeE (abc m) = 0 := by rw [hE1, if_pos (by omega)]
                have e2 : makeE [(qs 0, ws 0)] = 0 := by rw [hE2, hf]; rfl
                have hd : decide (1 ≤ 0 ∧ 0 ≤ 20) = false := by simp
                rw [hd] at hnm
                have l1 := hL1 (by omega)
                have l2 : (makeL [(qs 0, ws 0)]).length = 0 := by rw [hL2 hf]; rfl
                rw [e1, e2, l1, l2]
                clear hE1 hL1 hE2 hL2 hf e1 e2 hd l1 l2
                have ik : (m : Int) ≤ 8 := by omega
                have hmn : min (0 : Int) 1 = 0 := by decide
                go_wp2_with (go_at_call 21; refine (hnm _).mono ?_; rintro e w' ⟨rfl, rfl⟩)
                go_ret
                first | exact ⟨rfl, B3⟩ | exact ⟨ret_bool (by simp; omega), B3⟩
              · subst hv3
                have hf : fine x 0 = true := by unfold fine; simp
                have e1 : makeE (abc m) = 0 := by rw [hE1, if_pos (by omega)]
                have e2 : makeE [(qs x, ws 0)] = 0 := by rw [hE2, hf]; rfl
                have hd : decide (1 ≤ x ∧ x ≤ 20) = true := by simp; omega
                rw [hd] at hnm
                have l1 := hL1 (by omega)
                have l2 : (makeL [(qs x, ws 0)]).length = 0 := by rw [hL2 hf]; rfl
                rw [e1, e2, l1, l2]
                clear hE1 hL1 hE2 hL2 hf e1 e2 hd l1 l2
                have ik : (m : Int) ≤ 8 := by omega
                have ij1 : (1 : Int) ≤ x := by omega
                have ij2 : (x : Int) ≤ 20 := by omega
                have hmn : min (0 : Int) 1 = 0 := by decide
                go_wp2_with (go_at_call 21; refine (hnm _).mono ?_; rintro e w' ⟨rfl, rfl⟩)
                go_ret
                first | exact ⟨rfl, B3⟩ | exact ⟨ret_bool (by simp; omega), B3⟩
              · subst hv3
                have hf : fine x 0 = true := by unfold fine; simp
                have e1 : makeE (abc m) = 0 := by rw [hE1, if_pos (by omega)]
                have e2 : makeE [(qs x, ws 0)] = 0 := by rw [hE2, hf]; rfl
                have hd : decide (1 ≤ x ∧ x ≤ 20) = false := by simp; omega
                rw [hd] at hnm
                have l1 := hL1 (by omega)
                have l2 : (makeL [(qs x, ws 0)]).length = 0 := by rw [hL2 hf]; rfl
                rw [e1, e2, l1, l2]
                clear hE1 hL1 hE2 hL2 hf e1 e2 hd l1 l2
                have ik : (m : Int) ≤ 8 := by omega
                have ij1 : (1 : Int) ≤ x := by omega
                have ij2 : ¬ (x : Int) ≤ 20 := by omega
                have ij3 : decide ((x : Int) ≤ 20) = false := decide_eq_false ij2
                have hmn : min (0 : Int) 1 = 0 := by decide
                go_wp2_with (go_at_call 21; refine (hnm _).mono ?_; rintro e w' ⟨rfl, rfl⟩)
                go_ret
                first | exact ⟨rfl, B3⟩ | exact ⟨ret_bool (by simp; omega), B3⟩
              · subst hj3
                have hf : fine 0 y = false := by unfold fine; simp; omega
                have e1 : makeE (abc m) = 0 := by rw [hE1, if_pos (by omega)]
                have e2 : makeE [(qs 0, ws y)] = 30 := by rw [hE2, hf]; rfl
                have hd : decide (1 ≤ 0 ∧ 0 ≤ 20) = false := by simp
                rw [hd] at hnm
                have l1 := hL1 (by omega)
                rw [e1, e2, l1]
                clear hE1 hL1 hE2 hL2 hf e1 e2 hd l1
                have ik : (m : Int) ≤ 8 := by omega
                have iv0 : ((y : Int) == 0) = false := by rw [beq_eq_false_iff_ne]; omega
                have iv1 : ¬ (y : Int) < 1 := by omega
                have iv2 : (y : Int) ≤ 30 := by omega
                go_wp2_with (go_at_call 21; refine (hnm _).mono ?_; rintro e w' ⟨rfl, rfl⟩)
                go_ret
                first | exact ⟨rfl, B3⟩ | exact ⟨ret_bool (by simp; omega), B3⟩
              · have hf : fine x y = true := by unfold fine; simp; omega
                have e1 : makeE (abc m) = 0 := by rw [hE1, if_pos (by omega)]
                have e2 : makeE [(qs x, ws y)] = 0 := by rw [hE2, hf]; rfl
                have hd : decide (1 ≤ x ∧ x ≤ 20) = true := by simp; omega
                rw [hd] at hnm
                have l1 := hL1 (by omega)
                have l2 : (makeL [(qs x, ws y)]).length = 1 := by rw [hL2 hf]; omega
                rw [e1, e2, l1, l2]
                clear hE1 hL1 hE2 hL2 hf e1 e2 hd l1 l2
                have ik : (m : Int) ≤ 8 := by omega
                have ij1 : (1 : Int) ≤ x := by omega
                have ij2 : (x : Int) ≤ 20 := by omega
                have iv0 : ((y : Int) == 0) = false := by rw [beq_eq_false_iff_ne]; omega
                have iv1 : ¬ (y : Int) < 1 := by omega
                have iv2 : (y : Int) ≤ 30 := by omega
                have hmn : min (y : Int) 1 = 1 := by omega
                go_wp2_with (go_at_call 21; refine (hnm _).mono ?_; rintro e w' ⟨rfl, rfl⟩)
                go_ret
                first | exact ⟨rfl, B3⟩ | exact ⟨ret_bool (by simp; omega), B3⟩
              · have hf : fine x y = false := by unfold fine; simp; omega
                have e1 : makeE (abc m) = 0 := by rw [hE1, if_pos (by omega)]
                have e2 : makeE [(qs x, ws y)] = 30 := by rw [hE2, hf]; rfl
                have hd : decide (1 ≤ x ∧ x ≤ 20) = false := by simp; omega
                rw [hd] at hnm
                have l1 := hL1 (by omega)
                rw [e1, e2, l1]
                clear hE1 hL1 hE2 hL2 hf e1 e2 hd l1
                have ik : (m : Int) ≤ 8 := by omega
                have ij1 : (1 : Int) ≤ x := by omega
                have ij2 : ¬ (x : Int) ≤ 20 := by omega
                have ij3 : decide ((x : Int) ≤ 20) = false := decide_eq_false ij2
                have iv0 : ((y : Int) == 0) = false := by rw [beq_eq_false_iff_ne]; omega
                have iv1 : ¬ (y : Int) < 1 := by omega
                have iv2 : (y : Int) ≤ 30 := by omega
                go_wp2_with (go_at_call 21; refine (hnm _).mono ?_; rintro e w' ⟨rfl, rfl⟩)
                go_ret
                first | exact ⟨rfl, B3⟩ | exact ⟨ret_bool (by simp; omega), B3⟩
              · subst hj3
                have hf : fine 0 y = false := by unfold fine; simp; omega
                have e1 : makeE (abc m) = 0 := by rw [hE1, if_pos (by omega)]
                have e2 : makeE [(qs 0, ws y)] = 30 := by rw [hE2, hf]; rfl
                have hd : decide (1 ≤ 0 ∧ 0 ≤ 20) = false := by simp
                rw [hd] at hnm
                have l1 := hL1 (by omega)
                rw [e1, e2, l1]
                clear hE1 hL1 hE2 hL2 hf e1 e2 hd l1
                have ik : (m : Int) ≤ 8 := by omega
                have iv0 : ((y : Int) == 0) = false := by rw [beq_eq_false_iff_ne]; omega
                have iv2 : ¬ (y : Int) ≤ 30 := by omega
                go_wp2_with (go_at_call 21; refine (hnm _).mono ?_; rintro e w' ⟨rfl, rfl⟩)
                go_ret
                first | exact ⟨rfl, B3⟩ | exact ⟨ret_bool (by simp; omega), B3⟩
              · have hf : fine x y = false := by unfold fine; simp; omega
                have e1 : makeE (abc m) = 0 := by rw [hE1, if_pos (by omega)]
                have e2 : makeE [(qs x, ws y)] = 30 := by rw [hE2, hf]; rfl
                have hd : decide (1 ≤ x ∧ x ≤ 20) = true := by simp; omega
                rw [hd] at hnm
                have l1 := hL1 (by omega)
                rw [e1, e2, l1]
                clear hE1 hL1 hE2 hL2 hf e1 e2 hd l1
                have ik : (m : Int) ≤ 8 := by omega
                have ij1 : (1 : Int) ≤ x := by omega
                have ij2 : (x : Int) ≤ 20 := by omega
                have iv0 : ((y : Int) == 0) = false := by rw [beq_eq_false_iff_ne]; omega
                have iv2 : ¬ (y : Int) ≤ 30 := by omega
                go_wp2_with (go_at_call 21; refine (hnm _).mono ?_; rintro e w' ⟨rfl, rfl⟩)
                go_ret
                first | exact ⟨rfl, B3⟩ | exact ⟨ret_bool (by simp; omega), B3⟩
              · have hf : fine x y = false := by unfold fine; simp; omega
                have e1 : makeE (abc m) = 0 := by rw [hE1, if_pos (by omega)]
                have e2 : makeE [(qs x, ws y)] = 30 := by rw [hE2, hf]; rfl
                have hd : decide (1 ≤ x ∧ x ≤ 20) = false := by simp; omega
                rw [hd] at hnm
                have l1 := hL1 (by omega)
                rw [e1, e2, l1]
                clear hE1 hL1 hE2 hL2 hf e1 e2 hd l1
                have ik : (m : Int) ≤ 8 := by omega
                have ij1 : (1 : Int) ≤ x := by omega
                have ij2 : ¬ (x : Int) ≤ 20 := by omega
                have ij3 : decide ((x : Int) ≤ 20) = false := decide_eq_false ij2
                have iv0 : ((y : Int) == 0) = false := by rw [beq_eq_false_iff_ne]; omega
                have iv2 : ¬ (y : Int) ≤ 30 := by omega
                go_wp2_with (go_at_call 21; refine (hnm _).mono ?_; rintro e w' ⟨rfl, rfl⟩)
                go_ret
                first | exact ⟨rfl, B3⟩ | exact ⟨ret_bool (by simp; omega), B3⟩
              · subst hv3
                subst hj3
                have hf : fine 0 0 = true := by unfold fine; simp
                have e1 : makeE (abc m) = 30 := by rw [hE1, if_neg (by omega)]
                have e2 : makeE [(qs 0, ws 0)] = 0 := by rw [hE2, hf]; rfl
                have hd : decide (1 ≤ 0 ∧ 0 ≤ 20) = false := by simp
                rw [hd] at hnm
                have l2 : (makeL [(qs 0, ws 0)]).length = 0 := by rw [hL2 hf]; rfl
                rw [e1, e2, l2]
                clear hE1 hL1 hE2 hL2 hf e1 e2 hd l2
                have ik : ¬ (m : Int) ≤ 8 := by omega
                have hmn : min (0 : Int) 1 = 0 := by decide
                go_wp2_with (go_at_call 21; refine (hnm _).mono ?_; rintro e w' ⟨rfl, rfl⟩)
                go_ret
                first | exact ⟨rfl, B3⟩ | exact ⟨ret_bool (by simp; omega), B3⟩
              · subst hv3
                have hf : fine x 0 = true := by unfold fine; simp
                have e1 : makeE (abc m) = 30 := by rw [hE1, if_neg (by omega)]
                have e2 : makeE [(qs x, ws 0)] = 0 := by rw [hE2, hf]; rfl
                have hd : decide (1 ≤ x ∧ x ≤ 20) = true := by simp; omega
                rw [hd] at hnm
                have l2 : (makeL [(qs x, ws 0)]).length = 0 := by rw [hL2 hf]; rfl
                rw [e1, e2, l2]
                clear hE1 hL1 hE2 hL2 hf e1 e2 hd l2
                have ik : ¬ (m : Int) ≤ 8 := by omega
                have ij1 : (1 : Int) ≤ x := by omega
                have ij2 : (x : Int) ≤ 20 := by omega
                have hmn : min (0 : Int) 1 = 0 := by decide
                go_wp2_with (go_at_call 21; refine (hnm _).mono ?_; rintro e w' ⟨rfl, rfl⟩)
                go_ret
                first | exact ⟨rfl, B3⟩ | exact ⟨ret_bool (by simp; omega), B3⟩
              · subst hv3
                have hf : fine x 0 = true := by unfold fine; simp
                have e1 : makeE (abc m) = 30 := by rw [hE1, if_neg (by omega)]
                have e2 : makeE [(qs x, ws 0)] = 0 := by rw [hE2, hf]; rfl
                have hd : decide (1 ≤ x ∧ x ≤ 20) = false := by simp; omega
                rw [hd] at hnm
                have l2 : (makeL [(qs x, ws 0)]).length = 0 := by rw [hL2 hf]; rfl
                rw [e1, e2, l2]
                clear hE1 hL1 hE2 hL2 hf e1 e2 hd l2
                have ik : ¬ (m : Int) ≤ 8 := by omega
                have ij1 : (1 : Int) ≤ x := by omega
                have ij2 : ¬ (x : Int) ≤ 20 := by omega
                have ij3 : decide ((x : Int) ≤ 20) = false := decide_eq_false ij2
                have hmn : min (0 : Int) 1 = 0 := by decide
                go_wp2_with (go_at_call 21; refine (hnm _).mono ?_; rintro e w' ⟨rfl, rfl⟩)
                go_ret
                first | exact ⟨rfl, B3⟩ | exact ⟨ret_bool (by simp; omega), B3⟩
              · subst hj3
                have hf : fine 0 y = false := by unfold fine; simp; omega
                have e1 : makeE (abc m) = 30 := by rw [hE1, if_neg (by omega)]
                have e2 : makeE [(qs 0, ws y)] = 30 := by rw [hE2, hf]; rfl
                have hd : decide (1 ≤ 0 ∧ 0 ≤ 20) = false := by simp
                rw [hd] at hnm
                rw [e1, e2]
                clear hE1 hL1 hE2 hL2 hf e1 e2 hd
                have ik : ¬ (m : Int) ≤ 8 := by omega
                have iv0 : ((y : Int) == 0) = false := by rw [beq_eq_false_iff_ne]; omega
                have iv1 : ¬ (y : Int) < 1 := by omega
                have iv2 : (y : Int) ≤ 30 := by omega
                go_wp2_with (go_at_call 21; refine (hnm _).mono ?_; rintro e w' ⟨rfl, rfl⟩)
                go_ret
                first | exact ⟨rfl, B3⟩ | exact ⟨ret_bool (by simp; omega), B3⟩
              · have hf : fine x y = true := by unfold fine; simp; omega
                have e1 : makeE (abc m) = 30 := by rw [hE1, if_neg (by omega)]
                have e2 : makeE [(qs x, ws y)] = 0 := by rw [hE2, hf]; rfl
                have hd : decide (1 ≤ x ∧ x ≤ 20) = true := by simp; omega
                rw [hd] at hnm
                have l2 : (makeL [(qs x, ws y)]).length = 1 := by rw [hL2 hf]; omega
                rw [e1, e2, l2]
                clear hE1 hL1 hE2 hL2 hf e1 e2 hd l2
                have ik : ¬ (m : Int) ≤ 8 := by omega
                have ij1 : (1 : Int) ≤ x := by omega
                have ij2 : (x : Int) ≤ 20 := by omega
                have iv0 : ((y : Int) == 0) = false := by rw [beq_eq_false_iff_ne]; omega
                have iv1 : ¬ (y : Int) < 1 := by omega
                have iv2 : (y : Int) ≤ 30 := by omega
                have hmn : min (y : Int) 1 = 1 := by omega
                go_wp2_with (go_at_call 21; refine (hnm _).mono ?_; rintro e w' ⟨rfl, rfl⟩)
                go_ret
                first | exact ⟨rfl, B3⟩ | exact ⟨ret_bool (by simp; omega), B3⟩
              · have hf : fine x y = false := by unfold fine; simp; omega
                have e1 : makeE (abc m) = 30 := by rw [hE1, if_neg (by omega)]
                have e2 : makeE [(qs x, ws y)] = 30 := by rw [hE2, hf]; rfl
                have hd : decide (1 ≤ x ∧ x ≤ 20) = false := by simp; omega
                rw [hd] at hnm
                rw [e1, e2]
                clear hE1 hL1 hE2 hL2 hf e1 e2 hd
                have ik : ¬ (m : Int) ≤ 8 := by omega
                have ij1 : (1 : Int) ≤ x := by omega
                have ij2 : ¬ (x : Int) ≤ 20 := by omega
                have ij3 : decide ((x : Int) ≤ 20) = false := decide_eq_false ij2
                have iv0 : ((y : Int) == 0) = false := by rw [beq_eq_false_iff_ne]; omega
                have iv1 : ¬ (y : Int) < 1 := by omega
                have iv2 : (y : Int) ≤ 30 := by omega
                go_wp2_with (go_at_call 21; refine (hnm _).mono ?_; rintro e w' ⟨rfl, rfl⟩)
                go_ret
                first | exact ⟨rfl, B3⟩ | exact ⟨ret_bool (by simp; omega), B3⟩
              · subst hj3
                have hf : fine 0 y = false := by unfold fine; simp; omega
                have e1 : makeE (abc m) = 30 := by rw [hE1, if_neg (by omega)]
                have e2 : makeE [(qs 0, ws y)] = 30 := by rw [hE2, hf]; rfl
                have hd : decide (1 ≤ 0 ∧ 0 ≤ 20) = false := by simp
                rw [hd] at hnm
                rw [e1, e2]
                clear hE1 hL1 hE2 hL2 hf e1 e2 hd
                have ik : ¬ (m : Int) ≤ 8 := by omega
                have iv0 : ((y : Int) == 0) = false := by rw [beq_eq_false_iff_ne]; omega
                have iv2 : ¬ (y : Int) ≤ 30 := by omega
                go_wp2_with (go_at_call 21; refine (hnm _).mono ?_; rintro e w' ⟨rfl, rfl⟩)
                go_ret
                first | exact ⟨rfl, B3⟩ | exact ⟨ret_bool (by simp; omega), B3⟩
              · have hf : fine x y = false := by unfold fine; simp; omega
                have e1 : makeE (abc m) = 30 := by rw [hE1, if_neg (by omega)]
                have e2 : makeE [(qs x, ws y)] = 30 := by rw [hE2, hf]; rfl
                have hd : decide (1 ≤ x ∧ x ≤ 20) = true := by simp; omega
                rw [hd] at hnm
                rw [e1, e2]
                clear hE1 hL1 hE2 hL2 hf e1 e2 hd
                have ik : ¬ (m : Int) ≤ 8 := by omega
                have ij1 : (1 : Int) ≤ x := by omega
                have ij2 : (x : Int) ≤ 20 := by omega
                have iv0 : ((y : Int) == 0) = false := by rw [beq_eq_false_iff_ne]; omega
                have iv2 : ¬ (y : Int) ≤ 30 := by omega
                go_wp2_with (go_at_call 21; refine (hnm _).mono ?_; rintro e w' ⟨rfl, rfl⟩)
                go_ret
                first | exact ⟨rfl, B3⟩ | exact ⟨ret_bool (by simp; omega), B3⟩
              · have hf : fine x y = false := by unfold fine; simp; omega
                have e1 : makeE (abc m) = 30 := by rw [hE1, if_neg (by omega)]
                have e2 : makeE [(qs x, ws y)] = 30 := by rw [hE2, hf]; rfl
                have hd : decide (1 ≤ x ∧ x ≤ 20) = false := by simp; omega
                rw [hd] at hnm
                rw [e1, e2]
                clear hE1 hL1 hE2 hL2 hf e1 e2 hd
                have ik : ¬ (m : Int) ≤ 8 := by omega
                have ij1 : (1 : Int) ≤ x := by omega
                have ij2 : ¬ (x : Int) ≤ 20 := by omega
                have ij3 : decide ((x : Int) ≤ 20) = false := decide_eq_false ij2
                have iv0 : ((y : Int) == 0) = false := by rw [beq_eq_false_iff_ne]; omega
                have iv2 : ¬ (y : Int) ≤ 30 := by omega
                go_wp2_with (go_at_call 21; refine (hnm _).mono ?_; rintro e w' ⟨rfl, rfl⟩)
                go_ret
                first | exact ⟨rfl, B3⟩ | exact ⟨ret_bool (by simp; omega), B3⟩
end Go.Proofs.YtmhpmlfpflkgbaaDoor
