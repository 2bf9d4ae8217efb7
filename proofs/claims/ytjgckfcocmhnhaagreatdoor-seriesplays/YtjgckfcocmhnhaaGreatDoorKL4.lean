/- Texts that the others lean on. -/
import Derived.Test.YtjgckfcocmhnhaaGreatDoorKMC
import Derived.Test.YtjgckfcocmhnhaaGreatDoorKL1
import Derived.Deep.OwnRows
import Derived.Test.YtjgckfcocmhnhaaGreatDoorKL2
namespace Go.Proofs.YtjgckfcocmhnhaaGreatDoor.Lb
theorem gm_append (a b s : List UInt8) : gm (a ++ b) s = true ↔ ∃ t u, s = t ++ u ∧ gm a t = true ∧ gm b u = true := by
 induction a generalizing s with
 | nil =>
  rw [List.nil_append]
  constructor
  ·
   intro h; exact ⟨[], s, rfl, rfl, h⟩
  ·
   rintro ⟨t, u, rfl, h1, h2⟩
   rw [gm_nil] at h1
   rw [List.isEmpty_iff.1 h1]; exact h2
 | cons c a ih =>
  by_cases hc : c = 42
  ·
   subst hc
   rw [List.cons_append, gm_star, star_iff]
   constructor
   ·
    rintro ⟨x, y, rfl, h⟩
    obtain ⟨t, u, rfl, h1, h2⟩ := (ih y).1 h
    refine ⟨x ++ t, u, by rw [List.append_assoc], ?_, h2⟩
    rw [gm_star]
    exact (star_iff _ _).2 ⟨x, t, rfl, h1⟩
   ·
    rintro ⟨t, u, rfl, h1, h2⟩
    rw [gm_star] at h1
    obtain ⟨x, y, rfl, h⟩ := (star_iff _ _).1 h1
    exact ⟨x, y ++ u, by rw [List.append_assoc], (ih _).2 ⟨y, u, rfl, h, h2⟩⟩
  ·
   rw [List.cons_append]
   cases s with
   | nil =>
    rw [gm_cons_nil hc]
    constructor
    ·
     intro h; cases h
    ·
     rintro ⟨t, u, h, h1, _⟩
     rw [(List.append_eq_nil_iff.1 h.symm).1, gm_cons_nil hc] at h1; cases h1
   | cons d s =>
    rw [gm_cons hc, Bool.and_eq_true, ih]
    constructor
    ·
     rintro ⟨h0, t, u, rfl, h1, h2⟩
     exact ⟨d :: t, u, rfl, by rw [gm_cons hc, h0, h1]; rfl, h2⟩
    ·
     rintro ⟨t, u, h, h1, h2⟩
     cases t with
     | nil => rw [gm_cons_nil hc] at h1; cases h1
     | cons e t =>
      rw [List.cons_append] at h
      injection h with e1 e2
      subst e1
      rw [gm_cons hc, Bool.and_eq_true] at h1
      exact ⟨h1.1, t, u, e2, h1.2, h2⟩
/-- Without signs. -/
def free (p : List UInt8) : Prop := ∀ c ∈ p, c ≠ 42 ∧ c ≠ 63
def stars (n : Nat) : List UInt8 := List.replicate n 42
theorem star_true (s : List UInt8) : star (gm []) s = true := (star_iff _ _).2 ⟨s, [], by simp, rfl⟩
/-- Begins so. -/
def begins (p s : List UInt8) : Bool := decide (p.length ≤ s.length) && (s.take p.length == p)
def endsB (p s : List UInt8) : Bool := decide (p.length ≤ s.length) && (s.drop (s.length - p.length) == p)
theorem begins_iff (p s : List UInt8) : begins p s = true ↔ ∃ u, s = p ++ u := by
 unfold begins
 rw [Bool.and_eq_true, decide_eq_true_eq, beq_iff_eq]
 constructor
 ·
  rintro ⟨_, h⟩; exact ⟨s.drop p.length, by conv => lhs; rw [← List.take_append_drop p.length s, h]⟩
 ·
  rintro ⟨u, rfl⟩; simp
def marks (n : Nat) : List UInt8 := List.replicate n 63
/-! ### Two pieces -/
/-- Does the cut at i part the text so that both pieces match? -/
def cutAt (a b s : List UInt8) (i : Nat) : Bool := gm a (s.take i) && gm b (s.drop i)
def cutTo (a b s : List UInt8) (i k : Nat) : Bool := gm a (s.take i) && gm b (s.drop k)
/-- some cut among the first n. -/
def oneUp (a b s : List UInt8) (n : Nat) : Bool := (List.range n).any (cutAt a b s)
def anyAt (a b s : List UInt8) (i k : Nat) : Bool := (List.range (k - i)).any fun j => cutTo a b s i (i + j)
def anyUp (a b s : List UInt8) (n : Nat) : Bool := (List.range n).any fun i => anyAt a b s i (s.length + 1)
/-! ### Stars beside one another -/
def thick (n : Nat) : List UInt8 → List UInt8
 | [] => []
 | c :: p => c :: ((if c = 42 then stars n else []) ++ thick n p)
def steps : Nat → List UInt8
 | 0 => []
 | n + 1 => 97 :: 42 :: steps n
def aas (n : Nat) : List UInt8 := List.replicate n 97
/-! ### The table of the document's answer -/
theorem gm_snoc_star (x s : List UInt8) (k : Nat) (hk : k < s.length) : gm (x ++ [42]) (s.take (k + 1)) = (gm x (s.take (k + 1)) || gm (x ++ [42]) (s.take k)) := by
 have hstar : ∀ u, gm [42] u = true := fun u => by rw [gm_star]; exact star_true u
 rw [Bool.eq_iff_iff, Bool.or_eq_true, gm_append, gm_append]
 constructor
 ·
  rintro ⟨t, u, e, h1, _⟩
  by_cases hu : u = []
  ·
   subst hu; rw [List.append_nil] at e; left; rw [e]; exact h1
  ·
   right
   have hlen := congrArg List.length e
   rw [List.length_append, List.length_take, Nat.min_eq_left (by omega)] at hlen
   have hu0 : 0 < u.length := List.length_pos_iff.2 hu
   refine ⟨t, (s.take k).drop t.length, ?_, h1, hstar _⟩
   have ht : t = (s.take k).take t.length := by
    have := congrArg (List.take t.length) e
    rw [List.take_left, List.take_take, Nat.min_eq_left (by omega)] at this
    rw [List.take_take, Nat.min_eq_left (by omega), this]
   conv => lhs; rw [← List.take_append_drop t.length (s.take k), ← ht]
 ·
  rintro (h | ⟨t, u, e, h1, _⟩)
  ·
   exact ⟨_, [], by simp, h, hstar _⟩
  ·
   exact ⟨t, u ++ [s[k]], by rw [List.take_succ_eq_append_getElem hk, e, List.append_assoc], h1, hstar _⟩
theorem gm_snoc_star0 (x : List UInt8) : gm (x ++ [42]) [] = gm x [] := by rw [gm_end, gm_end]; simp
theorem gm_snoc {c : UInt8} (hc : c ≠ 42) (x s : List UInt8) (k : Nat) (hk : k < s.length) : gm (x ++ [c]) (s.take (k + 1)) = (gm x (s.take k) && (c == 63 || c == s[k])) := by
 rw [List.take_succ_eq_append_getElem hk, Bool.eq_iff_iff, gm_append, Bool.and_eq_true]
 constructor
 ·
  rintro ⟨t, u, e, h1, h2⟩
  cases u with
  | nil => rw [gm_cons_nil hc] at h2; cases h2
  | cons d u =>
   rw [gm_cons hc, Bool.and_eq_true, gm_nil, List.isEmpty_iff] at h2
   obtain ⟨h2, rfl⟩ := h2
   obtain ⟨e1, e2⟩ := List.append_inj' e rfl
   injection e2 with e2
   rw [e1, e2]
   exact ⟨h1, h2⟩
 ·
  rintro ⟨h1, h2⟩
  exact ⟨s.take k, [s[k]], rfl, h1, by rw [gm_cons hc, h2]; rfl⟩
theorem gm_snoc0 {c : UInt8} (hc : c ≠ 42) (x : List UInt8) : gm (x ++ [c]) [] = false := by rw [gm_end]; simp [hc]
end Go.Proofs.YtjgckfcocmhnhaaGreatDoor.Lb
namespace Go.Proofs.YtjgckfcocmhnhaaGreatDoor.Lb
open Go.RowKit
def gc (P S : Str) (i k : Nat) : Bool := gm (P.take i) (S.take k)
theorem gc_zero {S : Str} (P : Str) {j : Nat} (hj : j < S.length + 1) : gc P S 0 j = decide (j = 0) := by
 unfold gc
 rw [List.take_zero, gm_nil]
 cases j with
 | zero => simp
 | succ j =>
  cases S with
  | nil => simp at hj
  | cons => simp
theorem gc_star0 {P S : Str} {i : Nat} (hi : i < P.length) (hc : P[i] = 42) : gc P S (i + 1) 0 = gc P S i 0 := by
 unfold gc
 rw [take_snocB P i hi, hc, List.take_zero, gm_snoc_star0]
theorem gc_star {P S : Str} {i k : Nat} (hi : i < P.length) (hk : k < S.length) (hc : P[i] = 42) : gc P S (i + 1) (k + 1) = (gc P S i (k + 1) || gc P S (i + 1) k) := by
 unfold gc
 rw [take_snocB P i hi, hc, gm_snoc_star _ _ _ hk]
theorem gc_no0 {P S : Str} {i : Nat} (hi : i < P.length) (hc : P[i] ≠ 42) : gc P S (i + 1) 0 = false := by
 unfold gc
 rw [take_snocB P i hi, List.take_zero, gm_snoc0 hc]
theorem gc_step {P S : Str} {i k : Nat} (hi : i < P.length) (hk : k < S.length) (hc : P[i] ≠ 42) : gc P S (i + 1) (k + 1) = (gc P S i k && (P[i] == 63 || P[i] == S[k])) := by
 unfold gc
 rw [take_snocB P i hi, gm_snoc hc _ _ _ hk]
theorem gc_all (P S : Str) : gc P S P.length S.length = gm P S := by unfold gc; rw [List.take_length, List.take_length]
/-- The row that is being filled. -/
def fill (P S : Str) (i k j : Nat) : Value := .bool (if j < k then gc P S i j else false)
theorem fill_next {P S : Str} {i k j : Nat} {v : Bool} (hv : v = gc P S i k) : (if j = k then Value.bool v else fill P S i k j) = fill P S i (k + 1) j := by
 unfold fill
 by_cases h : j = k
 ·
  subst h
  rw [if_pos rfl, if_pos (by omega), hv]
 ·
  rw [if_neg h]
  by_cases h2 : j < k
  ·
   rw [if_pos h2, if_pos (by omega)]
  ·
   rw [if_neg h2, if_neg (by omega)]
theorem fill_same {P S : Str} {i k j : Nat} (hv : gc P S i k = false) : fill P S i k j = fill P S i (k + 1) j := by
 unfold fill
 by_cases h : j = k
 ·
  subst h
  rw [if_neg (by omega), if_pos (by omega), hv]
 ·
  by_cases h2 : j < k
  ·
   rw [if_pos h2, if_pos (by omega)]
  ·
   rw [if_neg h2, if_neg (by omega)]
theorem fill_full {P S : Str} {i N j : Nat} (hj : j < N) : fill P S i N j = .bool (gc P S i j) := by unfold fill; rw [if_pos hj]
theorem info4 : (Tryz.prog.info? 4).map (fun i => (i.zero, i.size, i.bytes)) = some (some (.bool false), 1, 1) := by kernel_rfl
def canRow (P S : Str) (i : Nat) (k : Nat) : Value := .bool (gc P S i k)
set_option maxRecDepth 200000 in
set_option maxHeartbeats 2000000 in
theorem refGlob_any (P S : Str) (w : World) (hP : Big P) (hS : S.length ≤ 140737488351232) :
  Calls Tryz.prog 127 #[tx P, tx S] w fun e w' => e = .returned (.bool (gm P S)) ∧ Below w.heap.size w w' := by
 unfold Big at hP
 obtain ⟨N, HN⟩ : ∃ N, Hid (N = S.length + 1) := ⟨_, rfl⟩
 have hN1 : S.length < N := by rw [HN.out]; omega
 have hN2 : N ≤ 140737488351233 := by rw [HN.out]; omega
 have hwr : IntKind.i64.wrap ((S.length : Int) + 1) = (N : Int) := by rw [IntKind.wrap_i64, HN.out]; omega
 have hmk : ∀ W, (Instr.makeSlice 168 (.int .i64 (N : Int)) (.int .i64 (N : Int))).run Tryz.prog W = .ok (.slice (some ⟨W.heap.size, 0, none⟩) N N) (W.alloc (.cells (madeCells #[.bool false] N) 4)) :=
  fun W => run_make_row' 168 4 (.bool false) 1 Tryz.underlying168 info4 rfl .i64 .i64 N (by omega) (by omega) W
 have hrow : ∀ W : World, (W.alloc (.cells (madeCells #[.bool false] N) 4)).rowIs W.heap.size 4 N (fun _ => .bool false) := fun W => World.rowIs_made W (.bool false) N 4
 have hz0 := (hrow w).cell (i := 0) (by omega)
 have hz1 := (hrow w).frozen 0
 have HB0 : Below w.heap.size w (w.alloc (.cells (madeCells #[.bool false] N) 4)) := bal (Below.refl _ _) _
 have HR0 : Hid (((w.alloc (.cells (madeCells #[.bool false] N) 4)).setCell ⟨w.heap.size, 0, none⟩ (.bool true)).rowIs w.heap.size 4 N (canRow P S 0)) := by
  refine ((hrow w).set 0 (.bool true)).congr fun j hj => ?_
  unfold canRow
  rw [gc_zero P (by rw [HN.out] at hj; exact hj)]
  by_cases h : j = 0
  ·
   rw [if_pos h, decide_eq_true h]
  ·
   rw [if_neg h, decide_eq_false h]
 go_enter Tryz.func127, Tryz.ntmps127
 go_wp2_with fail
 have HB1 := HB0.setCell (p := ⟨w.heap.size, 0, none⟩) (Nat.le_refl _) (.bool true)
 have HE : (w.alloc (.cells (madeCells #[.bool false] N) 4)).setCell ⟨w.heap.size, 0, none⟩ (.bool true) = w.alloc (.cells ((madeCells #[.bool false] N).setIfInBounds 0 (.bool true)) 4) := by simp [go_sem]
 rw [HE] at HR0 HB1
 clear hz0 hz1 HB0 HE
 generalize w.alloc (.cells ((madeCells #[.bool false] N).setIfInBounds 0 (.bool true)) 4) = w1 at *
 go_loopw [6, 5] (fun x y wr => ∃ i b : Nat, i ≤ P.length ∧ x = .int .i64 i ∧ y = .slice (some ⟨b, 0, none⟩) N N ∧ Hid (wr.rowIs b 4 N (canRow P S i)) ∧ w.heap.size ≤ b ∧ Below w.heap.size w wr) (fun x _ _ => P.length - (intOf x).toNat)
 case atStart => exact ⟨0, w.heap.size, by omega, rfl, rfl, HR0, Nat.le_refl _, HB1⟩
 case round =>
  obtain ⟨i, b, hi, rfl, rfl, HC, hwb, hbr⟩ := hrel
  clear HR0 HB1
  by_cases hlt : i < P.length
  ·
   have hbi := ba_lt hlt
   have HPi : Hid (P[i] = (⟨P.toArray⟩ : ByteArray)[i]'hbi) := rfl
   have HM1 : Hid ((wr.alloc (.cells (madeCells #[.bool false] N) 4)).rowIs wr.heap.size 4 N (fill P S (i + 1) 0)) := by
    refine (hrow wr).congr fun j hj => ?_
    unfold fill; rw [if_neg (by omega)]
   have HM2 : Hid ((wr.alloc (.cells (madeCells #[.bool false] N) 4)).rowIs b 4 N (canRow P S i)) := HC.out.alloc _
   have hne : b < wr.heap.size := HC.out.lt
   have hbn := hbr.size
   have hbm := bal hbr (.cells (madeCells #[.bool false] N) 4)
   clear HC
   go_wp2_with fail
   generalize wr.alloc (.cells (madeCells #[.bool false] N) 4) = w2 at *
   generalize wr.heap.size = d at *
   clear hbr
   go_loopw [8] (fun x wq => ∃ k : Nat, k ≤ N ∧ x = .int .i64 k ∧ Hid (wq.rowIs d 4 N (fill P S (i + 1) k)) ∧ Hid (wq.rowIs b 4 N (canRow P S i)) ∧ Below w.heap.size w wq) (fun x _ => N - (intOf x).toNat)
   case atStart => exact ⟨0, by omega, rfl, HM1, HM2, hbm⟩
   case round =>
    obtain ⟨k, hk, rfl, HF, HC, hbq⟩ := hrel
    clear HM1 HM2 hbm
    by_cases hkl : k < N
    ·
     have hkl' : (k : Int) ≤ S.length := by rw [HN.out] at hkl; omega
     have hdk := HF.out.cell hkl
     have hdf := HF.out.frozen k
     have HSet : ∀ v, Hid ((wr.setCell ⟨d, k, none⟩ v).rowIs b 4 N (canRow P S i)) := fun v => HC.out.setOther (a := ⟨d, k, none⟩) (by show b ≠ d; omega) v
     have HNext : ∀ v : Bool, v = gc P S (i + 1) k → Hid ((wr.setCell ⟨d, k, none⟩ (.bool v)).rowIs d 4 N (fill P S (i + 1) (k + 1))) := fun v hv => (HF.out.set k (.bool v)).congr fun j hj => fill_next hv
     have hB2 : ∀ v, Below w.heap.size w (wr.setCell ⟨d, k, none⟩ v) := fun v => hbq.setCell (p := ⟨d, k, none⟩) (by show _ ≤ d; omega) v
     have hck := HC.out.cell hkl
     unfold fill at hdk
     rw [if_neg (by omega)] at hdk
     unfold canRow at hck
     by_cases hc : P[i] = 42
     ·
      have t1 : ((((⟨P.toArray⟩ : ByteArray)[i]'hbi).toNat : Int) == 42) = true := by rw [← HPi.out, hc]; rfl
      by_cases hk0 : k = 0
      ·
       have HV := gc_star0 (S := S) hlt hc
       subst hk0
       have h0 : ¬ (0 : Int) < (0 : Nat) := by omega
       cases hg : gc P S i 0 with
       | true =>
        rw [hg] at hck HV
        have HR := HNext true HV.symm
        have HR2 := HSet (.bool true)
        have HB := hB2 (.bool true)
        clear HNext HSet hB2 HV HF HC hc HPi hg
        go_wp2_with fail
        go_roundw
        case rel => exact ⟨1, by omega, by go_num, HR, HR2, HB⟩
        case measure => simp [intOf]; omega
       | false =>
        rw [hg] at hck HV
        have HR := HNext false HV.symm
        have HR2 := HSet (.bool false)
        have HB := hB2 (.bool false)
        clear HNext HSet hB2 HV HF HC hc HPi hg
        go_wp2_with fail
        go_roundw
        case rel => exact ⟨1, by omega, by go_num, HR, HR2, HB⟩
        case measure => simp [intOf]; omega
      ·
       obtain ⟨q, hq⟩ : ∃ q, Hid (k = q + 1) := ⟨k - 1, by show _ = _; omega⟩
       have hq1 : q < k := by rw [hq.out]; omega
       have hq2 : q < N := by omega
       have h0 : (0 : Int) < k := by omega
       have hw1 : IntKind.i64.wrap ((k : Int) - 1) = (q : Int) := by rw [IntKind.wrap_i64, hq.out]; omega
       have HV : gc P S (i + 1) k = (gc P S i k || gc P S (i + 1) q) := by
        rw [hq.out]; exact gc_star hlt (by rw [HN.out] at hkl; rw [hq.out] at hkl; omega) hc
       have hdq := HF.out.cell hq2
       unfold fill at hdq
       rw [if_pos hq1] at hdq
       cases hg : gc P S i k with
       | true =>
        rw [hg] at hck HV
        have HR := HNext true HV.symm
        have HR2 := HSet (.bool true)
        have HB := hB2 (.bool true)
        clear HNext HSet hB2 HV HF HC hc HPi hg hq
        go_wp2_with fail
        go_roundw
        case rel => exact ⟨k + 1, by omega, by go_num, HR, HR2, HB⟩
        case measure => simp [intOf]; omega
       | false =>
        rw [hg, Bool.false_or] at HV
        rw [hg] at hck
        generalize gc P S (i + 1) q = v at *
        have HR := HNext v HV.symm
        have HR2 := HSet (.bool v)
        have HB := hB2 (.bool v)
        clear HNext HSet hB2 HV HF HC hc HPi hg hq
        go_wp2_with fail
        go_roundw
        case rel => exact ⟨k + 1, by omega, by go_num, HR, HR2, HB⟩
        case measure => simp [intOf]; omega
     ·
      have t1 : ((((⟨P.toArray⟩ : ByteArray)[i]'hbi).toNat : Int) == 42) = false := by
       rw [← HPi.out]
       have := @byte_eq P[i] 42
       rw [show ((42 : UInt8).toNat : Int) = 42 from rfl] at this
       rw [this]; simpa using hc
      by_cases hk0 : k = 0
      ·
       have HV := gc_no0 (S := S) hlt hc
       subst hk0
       have h0 : ¬ (0 : Int) < (0 : Nat) := by omega
       have HR : Hid (wr.rowIs d 4 N (fill P S (i + 1) 1)) := HF.out.congr fun j hj => fill_same HV
       clear HNext HSet hB2 HV HF hc HPi
       go_wp2_with fail
       go_roundw
       case rel => exact ⟨1, by omega, by go_num, HR, HC, hbq⟩
       case measure => simp [intOf]; omega
      ·
       obtain ⟨q, hq⟩ : ∃ q, Hid (k = q + 1) := ⟨k - 1, by show _ = _; omega⟩
       have hq1 : q < k := by rw [hq.out]; omega
       have hq2 : q < N := by omega
       have h0 : (0 : Int) < k := by omega
       have hw1 : IntKind.i64.wrap ((k : Int) - 1) = (q : Int) := by rw [IntKind.wrap_i64, hq.out]; omega
       have hqs : q < S.length := by rw [HN.out] at hkl; rw [hq.out] at hkl; omega
       have HV : gc P S (i + 1) k = (gc P S i q && (P[i] == 63 || P[i] == S[q])) := by
        rw [hq.out]; exact gc_step hlt hqs hc
       have hcq := HC.out.cell hq2
       unfold canRow at hcq
       cases hg : gc P S i q with
       | false =>
        rw [hg, Bool.false_and] at HV
        rw [hg] at hcq
        have HR : Hid (wr.rowIs d 4 N (fill P S (i + 1) (k + 1))) := HF.out.congr fun j hj => fill_same HV
        clear HNext HSet hB2 HV HF hc HPi hg hq
        go_wp2_with fail
        go_roundw
        case rel => exact ⟨k + 1, by omega, by go_num, HR, HC, hbq⟩
        case measure => simp [intOf]; omega
       | true =>
        rw [hg, Bool.true_and] at HV
        rw [hg] at hcq
        have hbqs := ba_lt hqs
        have HSq : Hid (S[q] = (⟨S.toArray⟩ : ByteArray)[q]'hbqs) := rfl
        have e63 := @byte_eq P[i] 63
        rw [show ((63 : UInt8).toNat : Int) = 63 from rfl, HPi.out] at e63
        have eqq := @byte_eq P[i] S[q]
        rw [HPi.out, HSq.out] at eqq
        rw [HPi.out, HSq.out, ← e63, ← eqq] at HV
        clear e63 eqq HPi HSq hc hg hq
        generalize hx1 : ((((⟨P.toArray⟩ : ByteArray)[i]'hbi).toNat : Int) == 63) = c1 at *
        generalize hx2 : ((((⟨P.toArray⟩ : ByteArray)[i]'hbi).toNat : Int) == (((⟨S.toArray⟩ : ByteArray)[q]'hbqs).toNat : Int)) = c2 at *
        have HR := HNext _ HV.symm
        have HR2 := HSet (.bool (c1 || c2))
        have HB := hB2 (.bool (c1 || c2))
        clear HNext HSet hB2 HV HF HC
        cases c1 with
        | true =>
         go_wp2_with fail
         simp only [Bool.true_or] at HR HR2 HB
         refine wp_region_noPanic ?_
         refine wp_region_held_drew (S := fun _ => True) (by kernel_rfl) ?_ (fun _ => ?_)
         ·
          exact trivial
         refine take_at 0 (some 64) (.slice (some ⟨d, 0, none⟩) N N) rfl rfl (by kernel_rfl) (by kernel_rfl) (by kernel_rfl) (fun _ _ _ h => h) (by rfl) (fun W hSw => by go_simp) trivial ?_
         simp only [Act.put, List.setIfInBounds_toArray, List.set_cons_zero, List.set_cons_succ]
         refine take_at 1 (some 65) (.int .i64 k) rfl rfl (by kernel_rfl) (by kernel_rfl) (by kernel_rfl) (fun _ _ _ h => h) (by rfl) (fun W hSw => by go_simp) trivial ?_
         simp only [Act.put, List.setIfInBounds_toArray, List.set_cons_zero, List.set_cons_succ]
         refine take_at 2 (some 66) (tx P) rfl rfl (by kernel_rfl) (by kernel_rfl) (by kernel_rfl) (fun _ _ _ h => h) (by rfl) (fun W hSw => by go_simp) trivial ?_
         simp only [Act.put, List.setIfInBounds_toArray, List.set_cons_zero, List.set_cons_succ]
         refine take_at 3 (some 67) (.int .i64 i) rfl rfl (by kernel_rfl) (by kernel_rfl) (by kernel_rfl) (fun _ _ _ h => h) (by rfl) (fun W hSw => by go_simp) trivial ?_
         simp only [Act.put, List.setIfInBounds_toArray, List.set_cons_zero, List.set_cons_succ]
         refine take_at 4 (some 68) (.int .u8 ((⟨P.toArray⟩ : ByteArray)[i]'hbi).toNat) rfl rfl (by kernel_rfl) (by kernel_rfl) (by kernel_rfl) (fun _ _ _ h => h) (by rfl) (fun W hSw => by go_simp) trivial ?_
         simp only [Act.put, List.setIfInBounds_toArray, List.set_cons_zero, List.set_cons_succ]
         refine take_at 5 (some 69) (.bool true) rfl rfl (by kernel_rfl) (by kernel_rfl) (by kernel_rfl) (fun _ _ _ h => h) (by rfl) (fun W hSw => by go_simp) trivial ?_
         simp only [Act.put, List.setIfInBounds_toArray, List.set_cons_zero, List.set_cons_succ]
         refine take_at 6 (some 70) (.bool true) rfl rfl (by kernel_rfl) (by kernel_rfl) (by kernel_rfl) (fun _ _ _ h => h) (by rfl) (fun W hSw => by go_simp) trivial ?_
         simp only [Act.put, List.setIfInBounds_toArray, List.set_cons_zero, List.set_cons_succ]
         refine skip_at 7 (some 71) rfl rfl (by kernel_rfl) (by kernel_rfl) (by kernel_rfl) (fun _ _ _ h => h) (by rfl) trivial ?_
         simp only [Act.put, List.setIfInBounds_toArray, List.set_cons_zero, List.set_cons_succ]
         refine skip_at 8 (some 72) rfl rfl (by kernel_rfl) (by kernel_rfl) (by kernel_rfl) (fun _ _ _ h => h) (by rfl) trivial ?_
         simp only [Act.put, List.setIfInBounds_toArray, List.set_cons_zero, List.set_cons_succ]
         refine skip_at 9 (some 73) rfl rfl (by kernel_rfl) (by kernel_rfl) (by kernel_rfl) (fun _ _ _ h => h) (by rfl) trivial ?_
         simp only [Act.put, List.setIfInBounds_toArray, List.set_cons_zero, List.set_cons_succ]
         refine skip_at 10 (some 74) rfl rfl (by kernel_rfl) (by kernel_rfl) (by kernel_rfl) (fun _ _ _ h => h) (by rfl) trivial ?_
         simp only [Act.put, List.setIfInBounds_toArray, List.set_cons_zero, List.set_cons_succ]
         refine skip_at 11 (some 75) rfl rfl (by kernel_rfl) (by kernel_rfl) (by kernel_rfl) (fun _ _ _ h => h) (by rfl) trivial ?_
         simp only [Act.put, List.setIfInBounds_toArray, List.set_cons_zero, List.set_cons_succ]
         refine skip_at 12 (some 76) rfl rfl (by kernel_rfl) (by kernel_rfl) (by kernel_rfl) (fun _ _ _ h => h) (by rfl) trivial ?_
         simp only [Act.put, List.setIfInBounds_toArray, List.set_cons_zero, List.set_cons_succ]
         refine skip_at 13 (some 77) rfl rfl (by kernel_rfl) (by kernel_rfl) (by kernel_rfl) (fun _ _ _ h => h) (by rfl) trivial ?_
         simp only [Act.put, List.setIfInBounds_toArray, List.set_cons_zero, List.set_cons_succ]
         refine skip_at 14 (some 78) rfl rfl (by kernel_rfl) (by kernel_rfl) (by kernel_rfl) (fun _ _ _ h => h) (by rfl) trivial ?_
         simp only [Act.put, List.setIfInBounds_toArray, List.set_cons_zero, List.set_cons_succ]
         refine take_at 15 (some 79) (.bool true) rfl rfl (by kernel_rfl) (by kernel_rfl) (by kernel_rfl) (fun _ _ _ h => h) (by rfl) (fun W hSw => by go_simp) trivial ?_
         simp only [Act.put, List.setIfInBounds_toArray, List.set_cons_zero, List.set_cons_succ]
         refine take_at 16 (some 80) (.pointer (some ⟨d, k, none⟩)) rfl rfl (by kernel_rfl) (by kernel_rfl) (by kernel_rfl) (fun _ _ _ h => h) (by rfl) (fun W hSw => by go_simp) trivial ?_
         simp only [Act.put, List.setIfInBounds_toArray, List.set_cons_zero, List.set_cons_succ]
         refine wpAnyH_ready (rs := [17]) (by kernel_rfl) (by simp) ?_
         refine AllReadyH.cons rfl (fun K hK => ?_) AllReadyH.nil
         go_simp
         refine hK.out _ _ ?_ (fun _ => ?_)
         ·
          exact trivial
         clear hK K
         refine wpAnyH_done (by kernel_rfl) ?_ _
         refine NoPanic.normal ?_
         go_wp2_with fail
         go_roundw
         case rel => exact ⟨k + 1, by omega, by go_num, HR.out.drew, HR2.out.drew, HB.drew⟩
         case measure => simp [intOf]; omega
        | false =>
         go_wp2_with fail
         simp only [Bool.false_or] at HR HR2 HB
         refine wp_region_noPanic ?_
         refine wp_region_held_drew (S := fun _ => True) (by kernel_rfl) ?_ (fun _ => ?_)
         ·
          exact trivial
         refine take_at 0 (some 64) (.slice (some ⟨d, 0, none⟩) N N) rfl rfl (by kernel_rfl) (by kernel_rfl) (by kernel_rfl) (fun _ _ _ h => h) (by rfl) (fun W hSw => by go_simp) trivial ?_
         simp only [Act.put, List.setIfInBounds_toArray, List.set_cons_zero, List.set_cons_succ]
         refine take_at 1 (some 65) (.int .i64 k) rfl rfl (by kernel_rfl) (by kernel_rfl) (by kernel_rfl) (fun _ _ _ h => h) (by rfl) (fun W hSw => by go_simp) trivial ?_
         simp only [Act.put, List.setIfInBounds_toArray, List.set_cons_zero, List.set_cons_succ]
         refine take_at 2 (some 66) (tx P) rfl rfl (by kernel_rfl) (by kernel_rfl) (by kernel_rfl) (fun _ _ _ h => h) (by rfl) (fun W hSw => by go_simp) trivial ?_
         simp only [Act.put, List.setIfInBounds_toArray, List.set_cons_zero, List.set_cons_succ]
         refine take_at 3 (some 67) (.int .i64 i) rfl rfl (by kernel_rfl) (by kernel_rfl) (by kernel_rfl) (fun _ _ _ h => h) (by rfl) (fun W hSw => by go_simp) trivial ?_
         simp only [Act.put, List.setIfInBounds_toArray, List.set_cons_zero, List.set_cons_succ]
         refine take_at 4 (some 68) (.int .u8 ((⟨P.toArray⟩ : ByteArray)[i]'hbi).toNat) rfl rfl (by kernel_rfl) (by kernel_rfl) (by kernel_rfl) (fun _ _ _ h => h) (by rfl) (fun W hSw => by go_simp) trivial ?_
         simp only [Act.put, List.setIfInBounds_toArray, List.set_cons_zero, List.set_cons_succ]
         refine take_at 5 (some 69) (.bool false) rfl rfl (by kernel_rfl) (by kernel_rfl) (by kernel_rfl) (fun _ _ _ h => h) (by rfl) (fun W hSw => by go_simp) trivial ?_
         simp only [Act.put, List.setIfInBounds_toArray, List.set_cons_zero, List.set_cons_succ]
         refine take_at 6 (some 70) (.bool false) rfl rfl (by kernel_rfl) (by kernel_rfl) (by kernel_rfl) (fun _ _ _ h => h) (by rfl) (fun W hSw => by go_simp) trivial ?_
         simp only [Act.put, List.setIfInBounds_toArray, List.set_cons_zero, List.set_cons_succ]
         refine take_at 7 (some 71) (tx P) rfl rfl (by kernel_rfl) (by kernel_rfl) (by kernel_rfl) (fun _ _ _ h => h) (by rfl) (fun W hSw => by go_simp) trivial ?_
         simp only [Act.put, List.setIfInBounds_toArray, List.set_cons_zero, List.set_cons_succ]
         refine take_at 8 (some 72) (.int .i64 i) rfl rfl (by kernel_rfl) (by kernel_rfl) (by kernel_rfl) (fun _ _ _ h => h) (by rfl) (fun W hSw => by go_simp) trivial ?_
         simp only [Act.put, List.setIfInBounds_toArray, List.set_cons_zero, List.set_cons_succ]
         refine take_at 9 (some 73) (.int .u8 ((⟨P.toArray⟩ : ByteArray)[i]'hbi).toNat) rfl rfl (by kernel_rfl) (by kernel_rfl) (by kernel_rfl) (fun _ _ _ h => h) (by rfl) (fun W hSw => by go_simp) trivial ?_
         simp only [Act.put, List.setIfInBounds_toArray, List.set_cons_zero, List.set_cons_succ]
         refine take_at 10 (some 74) (tx S) rfl rfl (by kernel_rfl) (by kernel_rfl) (by kernel_rfl) (fun _ _ _ h => h) (by rfl) (fun W hSw => by go_simp) trivial ?_
         simp only [Act.put, List.setIfInBounds_toArray, List.set_cons_zero, List.set_cons_succ]
         refine take_at 11 (some 75) (.int .i64 k) rfl rfl (by kernel_rfl) (by kernel_rfl) (by kernel_rfl) (fun _ _ _ h => h) (by rfl) (fun W hSw => by go_simp) trivial ?_
         simp only [Act.put, List.setIfInBounds_toArray, List.set_cons_zero, List.set_cons_succ]
         refine take_at 12 (some 76) (.int .i64 q) rfl rfl (by kernel_rfl) (by kernel_rfl) (by kernel_rfl) (fun _ _ _ h => h) (by rfl) (fun W hSw => by go_simp) trivial ?_
         simp only [Act.put, List.setIfInBounds_toArray, List.set_cons_zero, List.set_cons_succ]
         refine take_at 13 (some 77) (.int .u8 ((⟨S.toArray⟩ : ByteArray)[q]'hbqs).toNat) rfl rfl (by kernel_rfl) (by kernel_rfl) (by kernel_rfl) (fun _ _ _ h => h) (by rfl) (fun W hSw => by go_simp) trivial ?_
         simp only [Act.put, List.setIfInBounds_toArray, List.set_cons_zero, List.set_cons_succ]
         refine take_at 14 (some 78) (.bool c2) rfl rfl (by kernel_rfl) (by kernel_rfl) (by kernel_rfl) (fun _ _ _ h => h) (by rfl) (fun W hSw => by go_simp) trivial ?_
         simp only [Act.put, List.setIfInBounds_toArray, List.set_cons_zero, List.set_cons_succ]
         refine take_at 15 (some 79) (.bool c2) rfl rfl (by kernel_rfl) (by kernel_rfl) (by kernel_rfl) (fun _ _ _ h => h) (by rfl) (fun W hSw => by go_simp) trivial ?_
         simp only [Act.put, List.setIfInBounds_toArray, List.set_cons_zero, List.set_cons_succ]
         refine take_at 16 (some 80) (.pointer (some ⟨d, k, none⟩)) rfl rfl (by kernel_rfl) (by kernel_rfl) (by kernel_rfl) (fun _ _ _ h => h) (by rfl) (fun W hSw => by go_simp) trivial ?_
         simp only [Act.put, List.setIfInBounds_toArray, List.set_cons_zero, List.set_cons_succ]
         refine wpAnyH_ready (rs := [17]) (by kernel_rfl) (by simp) ?_
         refine AllReadyH.cons rfl (fun K hK => ?_) AllReadyH.nil
         go_simp
         refine hK.out _ _ ?_ (fun _ => ?_)
         ·
          exact trivial
         clear hK K
         refine wpAnyH_done (by kernel_rfl) ?_ _
         refine NoPanic.normal ?_
         go_wp2_with fail
         go_roundw
         case rel => exact ⟨k + 1, by omega, by go_num, HR.out.drew, HR2.out.drew, HB.drew⟩
         case measure => simp [intOf]; omega
    ·
     have HR : Hid (wr.rowIs d 4 N (canRow P S (i + 1))) := HF.out.congr fun j hj => by
      rw [show k = N from by omega, fill_full hj]; rfl
     have hkl' : ¬ (k : Int) ≤ S.length := by rw [HN.out] at hkl; omega
     clear HF HC
     go_wp2_with fail
     go_roundw
     case rel => exact ⟨i + 1, d, by omega, by go_num, rfl, HR, by omega, hbq⟩
     case measure => simp [intOf]; omega
  ·
   have hce := HC.out.cell hN1
   have HG := gc_all P S
   have HE : Hid (gm P S = gc P S i S.length) := by show _ = _; rw [← HG, show i = P.length from by omega]
   unfold canRow at hce
   clear HC HG
   generalize gc P S i S.length = v at *
   go_wp2_with fail
   go_ret
   exact ⟨by rw [HE.out]; rfl, hbr⟩
end Go.Proofs.YtjgckfcocmhnhaaGreatDoor.Lb
namespace Go.Proofs.YtjgckfcocmhnhaaGreatDoor.Lb
open Go.RowKit
theorem cut_to (P : Str) (p : Nat) : (⟨P.toArray⟩ : ByteArray).extract 0 p = ⟨(P.take p).toArray⟩ := by
 rw [Lib.extract_eq]
 congr 2
end Go.Proofs.YtjgckfcocmhnhaaGreatDoor.Lb
namespace Go.Proofs.YtjgckfcocmhnhaaGreatDoor.Lb
open Go.RowKit
theorem hasB_cut (p s : Str) : hasB p s = (decide (p.length ≤ s.length) && (s.take p.length == p)) := by
 have h : hasB p s = begins p s := by
  rw [Bool.eq_iff_iff, begins_iff]
  unfold hasB
  rw [List.isPrefixOf_iff_prefix]
  constructor
  ·
   rintro ⟨u, rfl⟩; exact ⟨u, rfl⟩
  ·
   rintro ⟨u, rfl⟩; exact ⟨u, rfl⟩
 rw [h]; rfl
set_option maxRecDepth 100000 in
set_option maxHeartbeats 1000000 in
theorem refOne_any (m : Mat) (v : Str) (w : World) (hv : v.length ≤ 140737488351232) (hm : Big m.text) :
  Calls Tryz.prog 106 #[av m, tx v] w fun e w' => e = .returned (.bool (fOne m v)) ∧ Below w.heap.size w w' := by
 have hglob := fun W => refGlob_any m.text v W hm hv
 unfold fOne
 unfold Big at hm
 have hnew := BoxM.new w m
 obtain ⟨n, k, t⟩ := m
 dsimp only at *
 have hb0 : ∀ o, Below w.heap.size w (w.alloc o) := bal (Below.refl _ _)
 by_cases h1 : k = 1
 ·
  subst h1
  cases he : v == t <;> (
   go_enter Tryz.func106, Tryz.ntmps106
   go_wp2_with fail
   go_ret
   exact ⟨by simp, hb0 _⟩)
 ·
  have t1 : (k == 1) = false := by simpa using h1
  by_cases h2 : k = 2
  ·
   subst h2
   cases he : v == t with
   | true =>
    have he' : (v != t) = false := by rw [bne, he]; rfl
    go_enter Tryz.func106, Tryz.ntmps106
    go_wp2_with fail
    go_ret
    exact ⟨by simp, hb0 _⟩
   | false =>
    have he' : (v != t) = true := by rw [bne, he]; rfl
    go_enter Tryz.func106, Tryz.ntmps106
    go_wp2_with fail
    go_ret
    exact ⟨by simp, hb0 _⟩
  ·
   have t2 : (k == 2) = false := by simpa using h2
   by_cases h3 : k = 3
   ·
    subst h3
    rw [hasB_cut]
    by_cases hle : t.length ≤ v.length
    ·
     have hle' : (t.length : Int) ≤ v.length := by omega
     have hx := cut_to v t.length
     rw [decide_eq_true hle]
     generalize hvt : (v.take t.length == t) = r at *
     generalize v.take t.length = vt at *
     have hb1 := hb0 (.cells #[tx n, .int .i64 3, tx t] 65)
     have c2 := hnew.c2
     go_enter Tryz.func106, Tryz.ntmps106
     go_wp2_with fail
     generalize w.alloc (.cells #[.string ⟨n.toArray⟩, .int .i64 3, .string ⟨t.toArray⟩] 65) = w1 at *
     go_quiet (fail)
     go_wp2_with fail
     go_ret
     exact ⟨by simp, below_drewN0 hb1 _⟩
    ·
     have hle' : ¬ (t.length : Int) ≤ v.length := by omega
     rw [decide_eq_false hle]
     have hb1 := hb0 (.cells #[tx n, .int .i64 3, tx t] 65)
     have c2 := hnew.c2
     go_enter Tryz.func106, Tryz.ntmps106
     go_wp2_with fail
     generalize w.alloc (.cells #[.string ⟨n.toArray⟩, .int .i64 3, .string ⟨t.toArray⟩] 65) = w1 at *
     go_quiet (fail)
     go_wp2_with fail
     go_ret
     exact ⟨by simp, below_drewN0 hb1 _⟩
   ·
    have t3 : (k == 3) = false := by simpa using h3
    by_cases h4 : k = 4
    ·
     subst h4
     generalize gm t v = r at *
     go_enter Tryz.func106, Tryz.ntmps106
     go_wp2_with fail
     refine (hglob _).mono ?_
     rintro e w1 ⟨rfl, hb1⟩
     go_wp2_with fail
     go_ret
     exact ⟨by simp, Below.chain (hb0 _) hb1⟩
    ·
     have t4 : (k == 4) = false := by simpa using h4
     go_enter Tryz.func106, Tryz.ntmps106
     go_wp2_with fail
     go_ret
     exact ⟨by simp, hb0 _⟩
end Go.Proofs.YtjgckfcocmhnhaaGreatDoor.Lb
namespace Go.Proofs.YtjgckfcocmhnhaaGreatDoor.Lb
open Go.RowKit
def FitW (l : List Pr) : Prop := ∀ p ∈ l, p.1.length ≤ 140737488351232 ∧ p.2.length ≤ 140737488351232
theorem get_room {l : List Pr} (h : FitW l) (n : Str) : (fGet l n).length ≤ 140737488351232 := by
 induction l with
 | nil => simp [get_nil]
 | cons p l ih =>
  rw [get_cons]
  split
  ·
   exact (h p (by simp)).2
  ·
   exact ih fun q hq => h q (by simp [hq])
set_option maxHeartbeats 2000000 in
theorem refAll_any (ao : Option Addr) (n cap : Nat) (l : List Pr) (xo : Option Addr) (k c : Nat) (m : List Mat) (w : World) (hn : n ≤ 9223372036854775807) (hk : k ≤ 9223372036854775807) (hl : Ps w ao n l) (hm : Ms w xo k m) (hf : FitW l) (hg : FitM m) :
  Calls Tryz.prog 78 #[.slice ao n cap, .slice xo k c] w fun e w' => e = .returned (.bool (fAll l m)) ∧ Below w.heap.size w w' := by
 obtain ⟨hlen, hcell⟩ := hm
 have HL : Hid (m.length = k) := hlen
 clear hlen
 go_enter Tryz.func78, Tryz.ntmps78
 go_wp2
 go_loopw [5] (fun i wr => ∃ j : Nat, j ≤ k ∧ i = .int .i64 j ∧ Hid (fAll l (m.take j) = true) ∧ Below w.heap.size w wr) (fun i _ => k - (intOf i).toNat)
 case atStart => exact ⟨0, by omega, rfl, rfl, Below.refl _ _⟩
 case round =>
  obtain ⟨j, hj, rfl, ha, hb⟩ := hrel
  by_cases hlt : j < k
  ·
   obtain ⟨b, off, rfl, hc⟩ := hcell (by omega)
   obtain ⟨hc0, hc1, hc2⟩ := hc j hlt
   have m0 : ∀ W, Below w.heap.size w W → W.cell? ⟨b, off + j * 3, none⟩ = _ := fun W hW => (hW.cell (p := ⟨b, off + j * 3, none⟩) (World.block_lt_of_cell? _ _ hc0)).trans hc0
   have m1 : ∀ W, Below w.heap.size w W → W.cell? ⟨b, off + j * 3 + 1, none⟩ = _ := fun W hW => (hW.cell (p := ⟨b, off + j * 3 + 1, none⟩) (World.block_lt_of_cell? _ _ hc1)).trans hc1
   have m2 : ∀ W, Below w.heap.size w W → W.cell? ⟨b, off + j * 3 + 2, none⟩ = _ := fun W hW => (hW.cell (p := ⟨b, off + j * 3 + 2, none⟩) (World.block_lt_of_cell? _ _ hc2)).trans hc2
   have hlt' : j < m.length := by rw [HL.out]; exact hlt
   have HT : Hid _ := all_take (l := l) hlt'
   have HN : Hid _ := all_no (l := l) hlt'
   have hbig := hg.at j
   clear hc hcell hc0 hc1 hc2 hlt'
   generalize m.getD j mat0 = x at *
   have hget : ∀ W, Below w.heap.size w W → Calls Tryz.prog 107 #[.slice ao n cap, tx x.name] W fun e w' => e = .returned (tx (fGet l x.name)) ∧ W = w' := fun W hW => refGet_any ao n cap l x.name W hn (hl.later hW)
   have hone := fun W => refOne_any x (fGet l x.name) W (get_room hf _) hbig.2
   go_wp2_with fail
   cases hv : fOne x (fGet l x.name) with
   | true =>
    rw [hv] at hone
    have HR : Hid (fAll l (m.take (j + 1)) = true) := by show _ = _; rw [HT.out, hv, ha.out]; rfl
    clear HT HN ha hv
    have C0 : Below w.heap.size w wr.drew := hb.drew
    refine wp_region_noPanic ?_
    refine wp_region_held_drew (S := fun W => Below w.heap.size w W) (by kernel_rfl) ?_ (fun _ => ?_)
    ·
     exact C0
    generalize wr.drew = wd at *
    refine take_at 0 (some 12) (.slice (some ⟨b, off, none⟩) k c) rfl rfl (by kernel_rfl) (by kernel_rfl) (by kernel_rfl) (fun _ _ _ h => h) (by rfl) (fun W hSw => by go_simp) C0 ?_
    simp only [Act.put, List.setIfInBounds_toArray, List.set_cons_zero, List.set_cons_succ]
    refine take_at 1 (some 13) (.int .i64 j) rfl rfl (by kernel_rfl) (by kernel_rfl) (by kernel_rfl) (fun _ _ _ h => h) (by rfl) (fun W hSw => by go_simp) C0 ?_
    simp only [Act.put, List.setIfInBounds_toArray, List.set_cons_zero, List.set_cons_succ]
    refine take_at 2 (some 14) (.pointer (some ⟨b, off + j * 3, none⟩)) rfl rfl (by kernel_rfl) (by kernel_rfl) (by kernel_rfl) (fun _ _ _ h => h) (by rfl) (fun W hSw => by go_simp) C0 ?_
    simp only [Act.put, List.setIfInBounds_toArray, List.set_cons_zero, List.set_cons_succ]
    refine take_at 3 (some 15) (.agg #[tx x.name, .int .i64 x.kind, tx x.text]) rfl rfl (by kernel_rfl) (by kernel_rfl) (by kernel_rfl) (fun _ _ _ h => h) (by rfl) (fun W hSw => by have c0 := m0 W hSw; have c1 := m1 W hSw; have c2 := m2 W hSw; go_simp) C0 ?_
    simp only [Act.put, List.setIfInBounds_toArray, List.set_cons_zero, List.set_cons_succ]
    refine take_at 4 (some 16) (.slice ao n cap) rfl rfl (by kernel_rfl) (by kernel_rfl) (by kernel_rfl) (fun _ _ _ h => h) (by rfl) (fun W hSw => by go_simp) C0 ?_
    simp only [Act.put, List.setIfInBounds_toArray, List.set_cons_zero, List.set_cons_succ]
    refine take_at 5 (some 17) (.slice (some ⟨b, off, none⟩) k c) rfl rfl (by kernel_rfl) (by kernel_rfl) (by kernel_rfl) (fun _ _ _ h => h) (by rfl) (fun W hSw => by go_simp) C0 ?_
    simp only [Act.put, List.setIfInBounds_toArray, List.set_cons_zero, List.set_cons_succ]
    refine take_at 6 (some 18) (.int .i64 j) rfl rfl (by kernel_rfl) (by kernel_rfl) (by kernel_rfl) (fun _ _ _ h => h) (by rfl) (fun W hSw => by go_simp) C0 ?_
    simp only [Act.put, List.setIfInBounds_toArray, List.set_cons_zero, List.set_cons_succ]
    refine take_at 7 (some 19) (.pointer (some ⟨b, off + j * 3, none⟩)) rfl rfl (by kernel_rfl) (by kernel_rfl) (by kernel_rfl) (fun _ _ _ h => h) (by rfl) (fun W hSw => by go_simp) C0 ?_
    simp only [Act.put, List.setIfInBounds_toArray, List.set_cons_zero, List.set_cons_succ]
    refine take_at 8 (some 20) (.pointer (some ⟨b, off + j * 3, none⟩)) rfl rfl (by kernel_rfl) (by kernel_rfl) (by kernel_rfl) (fun _ _ _ h => h) (by rfl) (fun W hSw => by go_simp) C0 ?_
    simp only [Act.put, List.setIfInBounds_toArray, List.set_cons_zero, List.set_cons_succ]
    refine take_at 9 (some 21) (tx x.name) rfl rfl (by kernel_rfl) (by kernel_rfl) (by kernel_rfl) (fun _ _ _ h => h) (by rfl) (fun W hSw => by have c0 := m0 W hSw; have c1 := m1 W hSw; have c2 := m2 W hSw; go_simp) C0 ?_
    simp only [Act.put, List.setIfInBounds_toArray, List.set_cons_zero, List.set_cons_succ]
    refine wpAnyH_ready (rs := [10]) (by kernel_rfl) (by simp) ?_
    refine AllReadyH.cons rfl (fun K hK => ?_) AllReadyH.nil
    go_simp
    refine (hget _ C0).mono ?_
    rintro e w5 ⟨rfl, rfl⟩
    refine hK.out _ _ ?_ (fun _ => ?_)
    ·
     exact C0
    clear hK K
    refine wpAnyH_ready (rs := [11]) (by kernel_rfl) (by simp) ?_
    refine AllReadyH.cons rfl (fun K hK => ?_) AllReadyH.nil
    go_simp
    refine (hone _).mono ?_
    rintro e w6 ⟨rfl, hb6⟩
    have C6 := Below.chain C0 hb6
    refine hK.out _ _ ?_ (fun _ => ?_)
    ·
     exact C6
    clear hK K
    refine take_at 12 (some 24) (.bool false) rfl rfl (by kernel_rfl) (by kernel_rfl) (by kernel_rfl) (fun _ _ _ h => h) (by rfl) (fun W hSw => by go_simp) C6 ?_
    simp only [Act.put, List.setIfInBounds_toArray, List.set_cons_zero, List.set_cons_succ]
    refine wpAnyH_done (by kernel_rfl) ?_ _
    refine NoPanic.normal ?_
    go_wp2_with fail
    go_roundw
    case rel => exact ⟨j + 1, by omega, by go_num, HR, C6⟩
    case measure => simp [intOf]; omega
   | false =>
    rw [hv] at hone
    have HR : Hid (fAll l m = false) := HN.out hv
    clear HT HN ha hv
    have C0 : Below w.heap.size w wr.drew := hb.drew
    refine wp_region_noPanic ?_
    refine wp_region_held_drew (S := fun W => Below w.heap.size w W) (by kernel_rfl) ?_ (fun _ => ?_)
    ·
     exact C0
    generalize wr.drew = wd at *
    refine take_at 0 (some 12) (.slice (some ⟨b, off, none⟩) k c) rfl rfl (by kernel_rfl) (by kernel_rfl) (by kernel_rfl) (fun _ _ _ h => h) (by rfl) (fun W hSw => by go_simp) C0 ?_
    simp only [Act.put, List.setIfInBounds_toArray, List.set_cons_zero, List.set_cons_succ]
    refine take_at 1 (some 13) (.int .i64 j) rfl rfl (by kernel_rfl) (by kernel_rfl) (by kernel_rfl) (fun _ _ _ h => h) (by rfl) (fun W hSw => by go_simp) C0 ?_
    simp only [Act.put, List.setIfInBounds_toArray, List.set_cons_zero, List.set_cons_succ]
    refine take_at 2 (some 14) (.pointer (some ⟨b, off + j * 3, none⟩)) rfl rfl (by kernel_rfl) (by kernel_rfl) (by kernel_rfl) (fun _ _ _ h => h) (by rfl) (fun W hSw => by go_simp) C0 ?_
    simp only [Act.put, List.setIfInBounds_toArray, List.set_cons_zero, List.set_cons_succ]
    refine take_at 3 (some 15) (.agg #[tx x.name, .int .i64 x.kind, tx x.text]) rfl rfl (by kernel_rfl) (by kernel_rfl) (by kernel_rfl) (fun _ _ _ h => h) (by rfl) (fun W hSw => by have c0 := m0 W hSw; have c1 := m1 W hSw; have c2 := m2 W hSw; go_simp) C0 ?_
    simp only [Act.put, List.setIfInBounds_toArray, List.set_cons_zero, List.set_cons_succ]
    refine take_at 4 (some 16) (.slice ao n cap) rfl rfl (by kernel_rfl) (by kernel_rfl) (by kernel_rfl) (fun _ _ _ h => h) (by rfl) (fun W hSw => by go_simp) C0 ?_
    simp only [Act.put, List.setIfInBounds_toArray, List.set_cons_zero, List.set_cons_succ]
    refine take_at 5 (some 17) (.slice (some ⟨b, off, none⟩) k c) rfl rfl (by kernel_rfl) (by kernel_rfl) (by kernel_rfl) (fun _ _ _ h => h) (by rfl) (fun W hSw => by go_simp) C0 ?_
    simp only [Act.put, List.setIfInBounds_toArray, List.set_cons_zero, List.set_cons_succ]
    refine take_at 6 (some 18) (.int .i64 j) rfl rfl (by kernel_rfl) (by kernel_rfl) (by kernel_rfl) (fun _ _ _ h => h) (by rfl) (fun W hSw => by go_simp) C0 ?_
    simp only [Act.put, List.setIfInBounds_toArray, List.set_cons_zero, List.set_cons_succ]
    refine take_at 7 (some 19) (.pointer (some ⟨b, off + j * 3, none⟩)) rfl rfl (by kernel_rfl) (by kernel_rfl) (by kernel_rfl) (fun _ _ _ h => h) (by rfl) (fun W hSw => by go_simp) C0 ?_
    simp only [Act.put, List.setIfInBounds_toArray, List.set_cons_zero, List.set_cons_succ]
    refine take_at 8 (some 20) (.pointer (some ⟨b, off + j * 3, none⟩)) rfl rfl (by kernel_rfl) (by kernel_rfl) (by kernel_rfl) (fun _ _ _ h => h) (by rfl) (fun W hSw => by go_simp) C0 ?_
    simp only [Act.put, List.setIfInBounds_toArray, List.set_cons_zero, List.set_cons_succ]
    refine take_at 9 (some 21) (tx x.name) rfl rfl (by kernel_rfl) (by kernel_rfl) (by kernel_rfl) (fun _ _ _ h => h) (by rfl) (fun W hSw => by have c0 := m0 W hSw; have c1 := m1 W hSw; have c2 := m2 W hSw; go_simp) C0 ?_
    simp only [Act.put, List.setIfInBounds_toArray, List.set_cons_zero, List.set_cons_succ]
    refine wpAnyH_ready (rs := [10]) (by kernel_rfl) (by simp) ?_
    refine AllReadyH.cons rfl (fun K hK => ?_) AllReadyH.nil
    go_simp
    refine (hget _ C0).mono ?_
    rintro e w5 ⟨rfl, rfl⟩
    refine hK.out _ _ ?_ (fun _ => ?_)
    ·
     exact C0
    clear hK K
    refine wpAnyH_ready (rs := [11]) (by kernel_rfl) (by simp) ?_
    refine AllReadyH.cons rfl (fun K hK => ?_) AllReadyH.nil
    go_simp
    refine (hone _).mono ?_
    rintro e w6 ⟨rfl, hb6⟩
    have C6 := Below.chain C0 hb6
    refine hK.out _ _ ?_ (fun _ => ?_)
    ·
     exact C6
    clear hK K
    refine take_at 12 (some 24) (.bool true) rfl rfl (by kernel_rfl) (by kernel_rfl) (by kernel_rfl) (fun _ _ _ h => h) (by rfl) (fun W hSw => by go_simp) C6 ?_
    simp only [Act.put, List.setIfInBounds_toArray, List.set_cons_zero, List.set_cons_succ]
    refine wpAnyH_done (by kernel_rfl) ?_ _
    refine NoPanic.normal ?_
    go_wp2_with fail
    go_ret
    exact ⟨by rw [HR.out]; rfl, C6⟩
  ·
   have HR : Hid (fAll l m = true) := by
    have := ha.out
    rw [List.take_of_length_le (by rw [HL.out]; omega)] at this
    exact this
   go_wp2_with fail
   go_ret
   exact ⟨by rw [HR.out]; rfl, hb⟩
end Go.Proofs.YtjgckfcocmhnhaaGreatDoor.Lb
