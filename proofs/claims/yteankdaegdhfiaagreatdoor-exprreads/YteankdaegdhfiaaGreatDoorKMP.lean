/- Texts that the others lean on. -/
import Derived.Lib.ItoaLen
import Derived.Shelf.SlGeneric
import Derived.Shelf.SortM.Plain
import Derived.Shelf.SortM.SortNone
import Derived.Ground.SlgmProg
import Derived.Shelf.Slices.CompactS
import Derived.Test.YteankdaegdhfiaaGreatDoorProg
import Derived.Lib.OwnBridge
import Derived.Test.YteankdaegdhfiaaGreatDoorKML
import Derived.Test.YteankdaegdhfiaaGreatDoorKMG
import Derived.Test.YteankdaegdhfiaaGreatDoorKMX
namespace Go.Proofs.YteankdaegdhfiaaGreatDoor
open Go.RowKit
/-- Two texts put together. -/
theorem wp_add {w : World} {ops : Array Oper} {rest : List Oper} {o : Oper} {a : Act} {Q : Exit → Act → World → Prop} (hgd : o.guard = none) (t u : TypeId) (x y : Operand) (ho : o.op = .binOp .add t x y u) (s r : Str) (hx : a.eval x = tx s) (hy : a.eval y = tx r) (hl : s.length + r.length ≤ 8388608)
  (h : wpList Tryz.prog ops Q rest (a.put o.dst (tx (s ++ r))) w) : wpList Tryz.prog ops Q (o :: rest) a w := by
 refine wpList_plain hgd fun K hK => ?_
 have k := hK _ _ h
 unfold Oper.wp
 rw [exec_add ho s r hx hy hl _ rfl w]
 exact k
theorem join9_any {P : Nat → Prop} {a : Option Addr} {n c : Nat} {l : List Str} {w : World} (sep : Str) (h : SlP P w (.slice a n c) l.length (l.map tx)) (hl : (Lib.join l sep).length ≤ 1000000) (hN : l.length ≤ 1000000) :
  Calls Tryz.prog 135 #[.slice a n c, tx sep] w fun e w' => e = .returned (tx (Lib.join l sep)) ∧ Below w.heap.size w w' := by
 obtain ⟨h1, h2, h3⟩ := h.strs
 subst h1
 by_cases h0 : l.length = 0
 ·
  obtain rfl : l = [] := List.length_eq_zero_iff.1 h0
  refine (Tryz.strings_Join_none a c ⟨sep.toArray⟩ w).mono ?_
  rintro e w' ⟨rfl, rfl⟩
  exact ⟨rfl, Below.refl _ _⟩
 ·
  obtain ⟨b, off, rfl, hc0⟩ := h3 0 (by omega)
  have em : (l.map fun s => (⟨s.toArray⟩ : ByteArray)).map (·.data.toList) = l := by
   rw [List.map_map]
   conv => rhs; rw [← List.map_id l]
   apply List.map_congr_left
   intro s _
   simp
  have h := Tryz.strings_Join b off c (l.map fun s => (⟨s.toArray⟩ : ByteArray)) ⟨sep.toArray⟩ w (fun j x hx => by
   rw [List.getElem?_map] at hx
   cases hj : l[j]? with
   | none => rw [hj] at hx; cases hx
   | some s =>
    rw [hj] at hx
    cases hx
    have hlt : j < l.length := (List.getElem?_eq_some_iff.1 hj).1
    obtain ⟨b', off', e', hc⟩ := h3 j hlt
    injection e' with e'
    injection e' with q1 q2
    subst q1 q2
    rw [hc, List.getD, hj]
    rfl) (World.block_lt_of_cell? _ _ hc0) (by simp; omega) (by simpa using h2) (by rw [em]; show (Lib.join l sep).length ≤ _; omega)
  rw [em] at h
  simp only [List.length_map] at h
  exact h.mono fun e w' ⟨he, hb⟩ => ⟨he, hb⟩
def gw (b1 b2 b3 b4 : Bool) : Str := if b1 then [98, 121] else if b2 then [119, 105, 116, 104, 111, 117, 116] else if b3 then [111, 110] else if b4 then [105, 103, 110, 111, 114, 105, 110, 103] else []
def gpS (b1 b2 b3 b4 : Bool) (ns : List Str) : Str := if gw b1 b2 b3 b4 = [] then [] else gw b1 b2 b3 b4 ++ [32, 40] ++ Lib.join ns [44, 32] ++ [41, 32]
set_option maxHeartbeats 4000000 in
theorem word_any (k p : Int) (o : Bool) (v : Int) (s : Str) (am an ak : Option Addr) (nm cm nn cn nk ck : Nat) (r : Int) (b1 b2 b3 b4 : Bool) (w : World) : Calls Tryz.prog 134 #[.agg (exA k p o v s (.slice am nm cm) r b1 b2 b3 b4 (.slice an nn cn) (.slice ak nk ck))] w fun e w' => e = .returned (tx (gw b1 b2 b3 b4)) ∧ Below w.heap.size w w' := by
 have qa := heap_new w (.cells (exA k p o v s (.slice am nm cm) r b1 b2 b3 b4 (.slice an nn cn) (.slice ak nk ck)) 29)
 have B1 := bal (Below.refl w.heap.size w) (.cells (exA k p o v s (.slice am nm cm) r b1 b2 b3 b4 (.slice an nn cn) (.slice ak nk ck)) 29)
 have x7 := (cell_at qa 7).trans rfl
 have x8 := (cell_at qa 8).trans rfl
 have x9 := (cell_at qa 9).trans rfl
 have x10 := (cell_at qa 10).trans rfl
 clear qa
 cases b1 with
 | true =>
  go_enter Tryz.func134, Tryz.ntmps134
  go_wp2_with fail
  go_ret
  exact ⟨rfl, B1⟩
 | false =>
  cases b2 with
  | true =>
   go_enter Tryz.func134, Tryz.ntmps134
   go_wp2_with fail
   go_ret
   exact ⟨rfl, B1⟩
  | false =>
   cases b3 with
   | true =>
    go_enter Tryz.func134, Tryz.ntmps134
    go_wp2_with fail
    go_ret
    exact ⟨rfl, B1⟩
   | false =>
    cases b4 with
    | true =>
     go_enter Tryz.func134, Tryz.ntmps134
     go_wp2_with fail
     go_ret
     exact ⟨rfl, B1⟩
    | false =>
     go_enter Tryz.func134, Tryz.ntmps134
     go_wp2_with fail
     go_ret
     exact ⟨rfl, B1⟩
set_option maxHeartbeats 4000000 in
theorem grp9_any {P : Nat → Prop} (k p : Int) (o : Bool) (v : Int) (s : Str) (am an ak : Option Addr) (nm cm nn cn nk ck : Nat) (r : Int) (b1 b2 b3 b4 : Bool) (ns : List Str) (w : World) (hn : SlP P w (.slice an nn cn) ns.length (ns.map tx)) (hN : ns.length ≤ 1000000) (hl : (Lib.join ns [44, 32]).length ≤ 1000000) :
  Calls Tryz.prog 76 #[.agg (exA k p o v s (.slice am nm cm) r b1 b2 b3 b4 (.slice an nn cn) (.slice ak nk ck))] w fun e w' => e = .returned (tx (gpS b1 b2 b3 b4 ns)) ∧ Below w.heap.size w w' := by
 have hw := fun W => word_any k p o v s am an ak nm cm nn cn nk ck r b1 b2 b3 b4 W
 have hj := fun W (hW : Below w.heap.size w W) => join9_any [44, 32] (SlP.later hn hW) hl hN
 have HG : Hid (gpS b1 b2 b3 b4 ns = if gw b1 b2 b3 b4 = [] then [] else gw b1 b2 b3 b4 ++ [32, 40] ++ Lib.join ns [44, 32] ++ [41, 32]) := rfl
 have hg8 : (gw b1 b2 b3 b4).length ≤ 8 := by cases b1 <;> cases b2 <;> cases b3 <;> cases b4 <;> simp [gw]
 generalize gpS b1 b2 b3 b4 ns = RES at *
 generalize gw b1 b2 b3 b4 = g at *
 generalize Lib.join ns [44, 32] = J at *
 have qa := heap_new w (.cells (exA k p o v s (.slice am nm cm) r b1 b2 b3 b4 (.slice an nn cn) (.slice ak nk ck)) 29)
 have B1 := bal (Below.refl w.heap.size w) (.cells (exA k p o v s (.slice am nm cm) r b1 b2 b3 b4 (.slice an nn cn) (.slice ak nk ck)) 29)
 go_enter Tryz.func76, Tryz.ntmps76
 go_upto_region 1 with fail
 generalize w.alloc (.cells (exA k p o v s (.slice am nm cm) r b1 b2 b3 b4 (.slice an nn cn) (.slice ak nk ck)) 29) = w1 at *
 go_wp2_with (refine wp_get rfl 29 _ rfl w.heap.size (exA k p o v s (.slice am nm cm) r b1 b2 b3 b4 (.slice an nn cn) (.slice ak nk ck)) 29 rfl qa _ Tryz.underlying29 rfl 13 inf29 rfl ?_)
 refine (hw _).mono ?_
 rintro e w2 ⟨rfl, b2x⟩
 have B2 := B1.trans (b2x.mono B1.size)
 have qb := below_heap b2x qa
 have x11 := (cell_at qb 11).trans rfl
 by_cases h0 : g = []
 ·
  subst h0
  have HR : Hid (RES = []) := HG.out
  clear HG
  go_wp2_with fail
  go_ret
  exact ⟨by rw [HR.out]; rfl, B2⟩
 ·
  have HR : Hid (RES = g ++ [32, 40] ++ J ++ [41, 32]) := by show _ = _; rw [HG.out, if_neg h0]
  have t0 : (g == []) = false := beq_eq_false_iff_ne.2 h0
  clear HG h0
  go_wp2_with (refine wp_add rfl 9 9 _ _ rfl _ _ rfl rfl (by simp; omega) ?_)
  refine (hj _ B2).mono ?_
  rintro e w3 ⟨rfl, b3x⟩
  have B3 := B2.trans (b3x.mono B2.size)
  go_wp2_with (refine wp_add rfl 9 9 _ _ rfl _ _ rfl rfl (by simp; omega) ?_)
  go_ret
  exact ⟨by rw [HR.out]; simp, B3⟩
def mSg (k : Int) : Str := if k = 1 then [61] else if k = 2 then [33, 61] else if k = 3 then [94, 61] else if k = 4 then [42, 61] else []
theorem sign9_any (k : Int) (w : World) : Calls Tryz.prog 187 #[.int .i64 k] w fun e w' => e = .returned (tx (mSg k)) ∧ w = w' := by
 unfold mSg
 by_cases h1 : k = 1
 ·
  subst h1
  go_enter Tryz.func187, Tryz.ntmps187
  go_wp2_with fail
  go_ret
  exact ⟨rfl, rfl⟩
 ·
  have t1 : (k == 1) = false := beq_eq_false_iff_ne.2 h1
  rw [if_neg h1]
  by_cases h2 : k = 2
  ·
   subst h2
   go_enter Tryz.func187, Tryz.ntmps187
   go_wp2_with fail
   go_ret
   exact ⟨rfl, rfl⟩
  ·
   have t2 : (k == 2) = false := beq_eq_false_iff_ne.2 h2
   rw [if_neg h2]
   by_cases h3 : k = 3
   ·
    subst h3
    go_enter Tryz.func187, Tryz.ntmps187
    go_wp2_with fail
    go_ret
    exact ⟨rfl, rfl⟩
   ·
    have t3 : (k == 3) = false := beq_eq_false_iff_ne.2 h3
    rw [if_neg h3]
    by_cases h4 : k = 4
    ·
     subst h4
     go_enter Tryz.func187, Tryz.ntmps187
     go_wp2_with fail
     go_ret
     exact ⟨rfl, rfl⟩
    ·
     have t4 : (k == 4) = false := beq_eq_false_iff_ne.2 h4
     rw [if_neg h4]
     go_enter Tryz.func187, Tryz.ntmps187
     go_wp2_with fail
     go_ret
     exact ⟨rfl, rfl⟩
end Go.Proofs.YteankdaegdhfiaaGreatDoor
namespace Go.Proofs.YteankdaegdhfiaaGreatDoor
open Go.RowKit
def isMet (x : Mt) : Bool := x.name == [95, 95, 110, 97, 109, 101, 95, 95] && x.kind == 1 && fName x.text
def ptN : List Mt → Str × List Mt
 | [] => ([], [])
 | x :: l => if isMet x then (x.text, l) else ([], x :: l)
theorem SlP.tail {P : Nat → Prop} {w : World} {b off n c : Nat} {x : Mt} {l : List Mt} (h : SlP P w (.slice (some ⟨b, off, none⟩) n c) (x :: l).length (cellsM (x :: l))) : SlP P w (.slice (some ⟨b, off + 3, none⟩) (n - 1) (c - 1)) l.length (cellsM l) := by
 obtain ⟨ao, cap, e, hc, h4⟩ := h
 injection e with e1 e2 e3
 subst e1 e2 e3
 refine ⟨_, _, rfl, by simp at hc ⊢; omega, fun hp => ?_⟩
 obtain ⟨b', off', e', hP, hcs⟩ := h4 (by simp)
 injection e' with e'
 injection e' with q1 q2
 subst q1 q2
 refine ⟨_, _, rfl, hP, fun j hj => ?_⟩
 have e : cellsM (x :: l) = [tx x.name, .int .i64 x.kind, tx x.text] ++ cellsM l := rfl
 have := hcs (j + 3) (by rw [e]; simp; omega)
 rw [show off + 3 + j = off + (j + 3) by omega, this, e, List.getElem?_append_right (by simp)]
 simp
set_option maxHeartbeats 4000000 in
theorem parted_any {P : Nat → Prop} {w : World} {am : Option Addr} {nm cm : Nat} {m : List Mt} (hm : SlP P w (.slice am nm cm) m.length (cellsM m)) (hb : ∀ x ∈ m, Big x.text) (hn : nm ≤ 9223372036854775807) :
  Calls Tryz.prog 82 #[.slice am nm cm] w fun e w' => ∃ a n c, e = .returned (.tuple #[tx (ptN m).1, .slice a n c]) ∧ SlP P w (.slice a n c) (ptN m).2.length (cellsM (ptN m).2) ∧ Below w.heap.size w w' := by
 have em := hm.mats.1
 have ec := hm.mats.2.1
 have hq := hm.mats.2.2
 cases m with
 | nil =>
  have e0 : nm = 0 := em
  subst e0
  have HS : Hid _ := hm
  clear hm hb hq em ec
  go_enter Tryz.func82, Tryz.ntmps82
  go_wp2_with fail
  go_ret2
  exact ⟨am, 0, cm, rfl, HS.out, Below.refl _ _⟩
 | cons x l =>
  have hp : 0 < nm := by rw [em]; simp
  have hp' : (0 : Int) < nm := by omega
  have hc1 : (1 : Int) ≤ cm := by omega
  have hn1 : (1 : Int) ≤ nm := by omega
  obtain ⟨b, off, ea, k0, k1, k2⟩ := hq 0 hp
  subst ea
  simp only [List.getD_cons_zero, Nat.zero_mul, Nat.add_zero] at k0 k1 k2
  have HS : Hid _ := hm
  have hnm := fun W => name_any x.text W (by have := hb x (by simp); unfold Big at this; omega)
  have HE : Hid (nm = l.length + 1) := em
  have hcn : nm ≤ cm := ec
  have HP : Hid (ptN (x :: l) = if isMet x then (x.text, l) else ([], x :: l)) := rfl
  have HM : Hid (isMet x = (x.name == [95, 95, 110, 97, 109, 101, 95, 95] && x.kind == 1 && fName x.text)) := rfl
  clear hm hb hq em ec
  generalize ptN (x :: l) = R at *
  generalize isMet x = M at *
  cases h1 : (x.name == [95, 95, 110, 97, 109, 101, 95, 95]) with
  | false =>
   have HR : Hid (R = ([], x :: l)) := by show _ = _; rw [HP.out, HM.out, h1]; rfl
   clear HP HM
   go_enter Tryz.func82, Tryz.ntmps82
   go_wp2_with fail
   go_ret2
   exact ⟨_, _, _, by rw [HR.out]; rfl, by rw [HR.out]; exact HS.out, Below.refl _ _⟩
  | true =>
   cases h2 : (x.kind == 1) with
   | false =>
    have HR : Hid (R = ([], x :: l)) := by show _ = _; rw [HP.out, HM.out, h1, h2]; rfl
    clear HP HM
    go_enter Tryz.func82, Tryz.ntmps82
    go_wp2_with fail
    go_ret2
    exact ⟨_, _, _, by rw [HR.out]; rfl, by rw [HR.out]; exact HS.out, Below.refl _ _⟩
   | true =>
    cases h3 : fName x.text with
    | false =>
     have HR : Hid (R = ([], x :: l)) := by show _ = _; rw [HP.out, HM.out, h1, h2, h3]; rfl
     rw [h3] at hnm
     clear HP HM h3
     go_enter Tryz.func82, Tryz.ntmps82
     go_wp2_with (go_at_call 141; refine (hnm _).mono ?_; rintro e w' ⟨rfl, rfl⟩)
     go_ret2
     exact ⟨_, _, _, by rw [HR.out]; rfl, by rw [HR.out]; exact HS.out, Below.refl _ _⟩
    | true =>
     have HR : Hid (R = (x.text, l)) := by show _ = _; rw [HP.out, HM.out, h1, h2, h3]; rfl
     rw [h3] at hnm
     clear HP HM h3
     go_enter Tryz.func82, Tryz.ntmps82
     go_upto_region 2 with (go_at_call 141; refine (hnm _).mono ?_; rintro e w' ⟨rfl, rfl⟩)
     go_quiet (fail)
     go_wp2_with fail
     ·
      go_ret2
      refine ⟨_, _, _, by rw [HR.out]; rfl, ?_, Fx.below_drewN (Below.refl _ _) _⟩
      rw [HR.out]
      have e1 : nm - 1 = 0 := by omega
      have e2 := HE.out
      obtain rfl : l = [] := List.length_eq_zero_iff.1 (by omega)
      rw [e1]
      exact ⟨_, _, rfl, Nat.zero_le _, fun h => by simp at h⟩
     ·
      go_ret2
      exact ⟨_, _, _, by rw [HR.out]; rfl, by rw [HR.out]; exact SlP.tail HS.out, Fx.below_drewN (Below.refl _ _) _⟩
end Go.Proofs.YteankdaegdhfiaaGreatDoor
namespace Go.Proofs.YteankdaegdhfiaaGreatDoor
open Go.RowKit
def qtx (s : Str) : Str := [34] ++ esc s ++ [34]
def mTx (x : Mt) : Str := x.name ++ mSg x.kind ++ qtx x.text
def pMs (m : List Mt) : Str := Lib.join (m.map mTx) [44, 32]
def tT (s : Str) : Tk := ⟨4, 0, s, false, 0, 0⟩
theorem prL_one (x : Tk) (h : prT x ≠ []) : prL [x] = prT x := by
 unfold prL txs
 have : (prT x).isEmpty = false := by
  cases hh : prT x with
  | nil => exact absurd hh h
  | cons c r => rfl
 simp [this, Lib.join]
theorem prL_tT (s : Str) : prL [tT s] = qtx s := by
 rw [prL_one _ (by show [34] ++ esc s ++ [34] ≠ []; simp)]
 rfl
theorem Ts.one {w : World} {b : Nat} {x : Tk} {t : TypeId} (h : w.heap[b]? = some (.cells (tcs x) t)) : Ts w (some ⟨b, 0, none⟩) 1 [x] := by
 refine ⟨rfl, fun _ => ⟨b, 0, rfl, fun j hj i hi => ?_⟩⟩
 obtain rfl : j = 0 := by omega
 rw [cell_at h]
 simp only [Nat.zero_mul, Nat.zero_add, List.getD_cons_zero]
 match i, hi with
 | 0, _ => rfl
 | 1, _ => rfl
 | 2, _ => rfl
 | 3, _ => rfl
 | 4, _ => rfl
 | 5, _ => rfl
theorem lex1_any (x : Tk) (b : Nat) (w : World) {t : TypeId} (h : w.heap[b]? = some (.cells (tcs x) t)) (hf : FineT x) (hj : (prL [x]).length ≤ 1000000) (he : Ev w) : Calls Tryz.prog 133 #[.slice (some ⟨b, 0, none⟩) 1 1] w fun e w' => e = .returned (tx (prL [x])) ∧ Below w.heap.size w w' :=
 print_any _ 1 1 [x] w (by omega) (Ts.one h) (fun y hy => by rw [List.mem_singleton.1 hy]; exact hf) hj he
theorem qtx_len (s : Str) (h : s.length ≤ 1000) : (qtx s).length ≤ 5000 := by
 have := esc_len s
 unfold qtx
 simp
 omega
set_option maxHeartbeats 8000000 in
theorem pMs_any {P : Nat → Prop} {w : World} {am : Option Addr} {nm cm : Nat} {m : List Mt} (hm : SlP P w (.slice am nm cm) m.length (cellsM m)) (hx : ∀ x ∈ m, x.name.length ≤ 100000 ∧ x.text.length ≤ 1000) (hn : nm ≤ 100000) (hl : (pMs m).length ≤ 1000000) (he : Ev w) :
  Calls Tryz.prog 132 #[.slice am nm cm] w fun e w' => e = .returned (tx (pMs m)) ∧ Below w.heap.size w w' := by
 obtain ⟨i0, hi, hz0, hz1, hz2⟩ := info_parts9
 have HS : Hid _ := hm
 have HZ : Hid (nm = m.length) := hm.mats.1
 have HX : Hid _ := hx
 have HJ : Hid ((pMs m).length ≤ 1000000) := hl
 clear hm hx hl
 go_enter Tryz.func132, Tryz.ntmps132
 go_wp2_with fail
 go_loopw [9, 3] (fun i u wr => ∃ (j : Nat) (v : Value), j ≤ nm ∧ i = .int .i64 j ∧ v = u ∧ OwnS wr w.heap.size v ((m.take j).map mTx) ∧ Below w.heap.size w wr) (fun i _ _ => nm - (intOf i).toNat)
 case atStart => exact ⟨0, _, by omega, rfl, rfl, World.ownsRow_made w #[] 0 (Nat.le_refl _) (Nat.zero_le _) (by simp), bal (Below.refl _ _) _⟩
 case round =>
  obtain ⟨j, v, hjn, rfl, rfl, ho, hb⟩ := hrel
  by_cases hlt : j < nm
  ·
   have hlt' : (j : Int) < nm := by omega
   have HK : Hid (j < m.length) := by have := HZ.out; show _ < _; omega
   obtain ⟨b, off, ea, k0, k1, k2⟩ := (SlP.later HS.out hb).mats.2.2 j hlt
   have hxx := HX.out _ (getD_mem m j ⟨[], 0, []⟩ HK.out)
   have HL : Hid ((m.take (j + 1)).map mTx = (m.take j).map mTx ++ [mTx (m.getD j ⟨[], 0, []⟩)]) := by
    show _ = _
    rw [List.take_succ_eq_append_getElem HK.out, List.map_append]
    simp [List.getD, List.getElem?_eq_getElem HK.out]
   have HLe : Hid (((m.take j).map mTx).length ≤ j) := by show _ ≤ _; simp; omega
   subst ea
   generalize m.getD j ⟨[], 0, []⟩ = x at *
   obtain ⟨hx1, hx2⟩ := hxx
   have hsg : (mSg x.kind).length ≤ 2 := by unfold mSg; split <;> (try split) <;> (try split) <;> (try split) <;> simp
   have hql := qtx_len x.text hx2
   have hlx : ∀ (b : Nat) (W : World), W.heap[b]? = some (.cells (tcs (tT x.text)) 39) → Ev W → Calls Tryz.prog 133 #[.slice (some ⟨b, 0, none⟩) 1 1] W fun e w' => e = .returned (tx (qtx x.text)) ∧ Below W.heap.size W w' := fun b W h hE => by
    have := lex1_any (tT x.text) b W h ⟨hx2, by show (-9223372036854775808 : Int) ≤ 0; omega, by show (0 : Int) ≤ _; omega, by show (-9223372036854775808 : Int) ≤ 0; omega, by show (0 : Int) ≤ _; omega⟩ (by rw [prL_tT]; omega) hE
    rwa [prL_tT] at this
   have Ba := bal hb (.cells (mA mz) 87)
   have ho1 := ho.later (bal (Below.refl wr.heap.size wr) (.cells (mA mz) 87))
   have q0 := heap_new wr (.cells (mA mz) 87)
   go_wp2_with (refine wp_put rfl 87 _ _ rfl wr.heap.size (mA x) rfl rfl _ 87 q0 3 inf75 rfl ⟨rfl, rfl⟩ ?_; intro w2 q2 o2 z2)
   have B2 := ((Off.of Ba []).trans o2 (by simp; exact hb.size)).below (by simp)
   have hev := he.later B2
   have ho2 : OwnS w2 w.heap.size v ((m.take j).map mTx) := ho.later (((Off.of (bal (Below.refl wr.heap.size wr) (.cells (mA mz) 87)) []).trans o2 (by simp)).below (by simp))
   have zb := hb.size
   clear ho1 Ba q0 o2 k0 k1 k2 hb
   have hx9 : some wr.heap.size ≠ v.ownBlock := fun e => by have := (World.ownsRow.lt ho _ e.symm).2; omega
   clear ho
   have C0 := drew_below w2
   have S0 := below_heap C0 q2
   refine wp_region_noPanic ?_
   refine wp_region_held_drew (S := fun W : World => W.heap[wr.heap.size]? = some (.cells (mA x) 87)) (by kernel_rfl) ?_ (fun _ => ?_)
   ·
    exact S0
   generalize w2.drew = w3 at *
   refine tk 0 13 (v) rfl (fun W hSw => by go_simp) S0 ?_
   simp only [Act.put, pB, pC, pD]
   refine tk 1 14 (.pointer (some ⟨wr.heap.size, 0, none⟩)) rfl (fun W hSw => by go_simp) S0 ?_
   simp only [Act.put, pB, pC, pD]
   refine tk 2 15 (tx x.name) rfl (fun W hSw => by (have hc := (cell_at hSw 0).trans rfl; go_simp)) S0 ?_
   simp only [Act.put, pB, pC, pD]
   refine tk 3 16 (.pointer (some ⟨wr.heap.size, 1, none⟩)) rfl (fun W hSw => by go_simp) S0 ?_
   simp only [Act.put, pB, pC, pD]
   refine tk 4 17 (.int .i64 x.kind) rfl (fun W hSw => by (have hc := (cell_at hSw 1).trans rfl; go_simp)) S0 ?_
   simp only [Act.put, pB, pC, pD]
   refine tk 7 20 (.pointer (some ⟨wr.heap.size, 2, none⟩)) rfl (fun W hSw => by go_simp) S0 ?_
   simp only [Act.put, pB, pC, pD]
   refine tk 8 21 (tx x.text) rfl (fun W hSw => by (have hc := (cell_at hSw 2).trans rfl; go_simp)) S0 ?_
   simp only [Act.put, pB, pC, pD]
   refine tk 9 22 (.agg #[.int .i64 4, .int .i64 0, tx x.text, .bool false, .int .i64 0, .int .i64 0]) rfl (fun W hSw => by go_simp) S0 ?_
   simp only [Act.put, pB, pC, pD]
   refine wpAnyH_ready (rs := [5, 10]) (by kernel_rfl) (by simp) ?_
   refine AllReadyH.cons rfl (fun K hK => ?_) (AllReadyH.cons rfl (fun K hK => ?_) AllReadyH.nil)
   ·
    go_simp
    refine (sign9_any _ _).mono ?_
    rintro e w4 ⟨rfl, rfl⟩
    refine hK.out _ _ ?_ (fun _ => ?_)
    ·
     exact S0
    clear hK K
    refine tk 6 19 (tx (x.name ++ mSg x.kind)) rfl (fun W hSw => by exact exec_add rfl x.name (mSg x.kind) rfl rfl (by omega) _ rfl W) S0 ?_
    simp only [Act.put, pB, pC, pD]
    refine wpAnyH_ready (rs := [10]) (by kernel_rfl) (by simp) ?_
    refine AllReadyH.cons rfl (fun K hK => ?_) AllReadyH.nil
    go_simp
    have q5 := heap_new w3 (.cells #[.int .i64 4, .int .i64 0, tx x.text, .bool false, .int .i64 0, .int .i64 0] 39)
    have C5 : Below w2.heap.size w2 (w3.alloc (.cells #[.int .i64 4, .int .i64 0, tx x.text, .bool false, .int .i64 0, .int .i64 0] 39)) := C0.alloc C0.size _
    have S5 := below_heap (bal (Below.refl w3.heap.size w3) (.cells #[.int .i64 4, .int .i64 0, tx x.text, .bool false, .int .i64 0, .int .i64 0] 39)) S0
    generalize w3.alloc (.cells #[.int .i64 4, .int .i64 0, tx x.text, .bool false, .int .i64 0, .int .i64 0] 39) = w5 at *
    refine hK.out _ _ ?_ (fun _ => ?_)
    ·
     exact S5
    clear hK K
    refine wpAnyH_ready (rs := [11]) (by kernel_rfl) (by simp) ?_
    refine AllReadyH.cons rfl (fun K hK => ?_) AllReadyH.nil
    go_simp
    refine (hlx _ _ q5 (hev.later C5)).mono ?_
    rintro e w6 ⟨rfl, b6⟩
    have C6 : Below w2.heap.size w2 w6 := C5.trans (b6.mono C5.size)
    have S6 := below_heap b6 S5
    refine hK.out _ _ ?_ (fun _ => ?_)
    ·
     exact S6
    clear hK K
    refine tk 12 25 (tx (mTx x)) rfl (fun W hSw => by exact exec_add rfl (x.name ++ mSg x.kind) (qtx x.text) rfl rfl (by simp; omega) _ rfl W) S6 ?_
    simp only [Act.put, pB, pC, pD]
    generalize mTx x = t at *
    refine wpAnyH_ready (rs := [13]) (by kernel_rfl) (by simp) ?_
    refine AllReadyH.cons rfl (fun K hK => ?_) AllReadyH.nil
    go_simp
    have C7 : Below w2.heap.size w2 (w6.alloc (.cells #[tx t] 9)) := C6.alloc C6.size _
    have S7 := below_heap (bal (Below.refl w6.heap.size w6) (.cells #[tx t] 9)) S6
    have hnw := one_cell (World.cell?_alloc_new w6 #[tx t] 9 0)
    generalize w6.alloc (.cells #[tx t] 9) = w7 at *
    refine hK.out _ _ ?_ (fun _ => ?_)
    ·
     exact S7
    clear hK K
    have ho7 := OwnS.later ho2 C7
    have B7 := B2.trans (C7.mono B2.size)
    refine wpAnyH_ready (rs := [14]) (by kernel_rfl) (by simp) ?_
    refine AllReadyH.cons rfl (fun K hK => ?_) AllReadyH.nil
    refine step_append _ _ (some 27) 26 rfl rfl (by rfl) w.heap.size 9 i0 (tx []) 1 16 Tryz.underlying26 hi hz0 hz1 hz2 rfl (by decide) v _ _ rfl ho7 ⟨w6.heap.size, 0, none⟩ 1 1 [tx t] rfl rfl hnw (fun u hu => by cases hu with | head => rfl | tail _ h => cases h) (by have := HLe.out; unfold maxLen; omega) (by have := HLe.out; omega) B7.size ?_
    intro v' w8 ho8 hg8
    have S8 := grown_heap hg8 S7 hx9
    have B8 := B7.grown hg8 B7.size (fun k hk => (World.ownsRow.lt ho7 k hk).1)
    refine hK.out _ _ ?_ (fun _ => ?_)
    ·
     exact S8
    clear hK K
    refine tk 15 3 (v') rfl (fun W hSw => by go_simp) S8 ?_
    simp only [Act.put, pB, pC, pD]
    refine wpAnyH_done (by kernel_rfl) ?_ _
    refine NoPanic.normal ?_
    go_wp2_with fail
    go_roundw
    case rel => exact ⟨j + 1, _, by omega, by go_num, rfl, by rw [HL.out]; exact OwnS.snoc ho8, B8⟩
    case measure => simp [intOf]; omega
   ·
    go_simp
    have q5 := heap_new w3 (.cells #[.int .i64 4, .int .i64 0, tx x.text, .bool false, .int .i64 0, .int .i64 0] 39)
    have C5 : Below w2.heap.size w2 (w3.alloc (.cells #[.int .i64 4, .int .i64 0, tx x.text, .bool false, .int .i64 0, .int .i64 0] 39)) := C0.alloc C0.size _
    have S5 := below_heap (bal (Below.refl w3.heap.size w3) (.cells #[.int .i64 4, .int .i64 0, tx x.text, .bool false, .int .i64 0, .int .i64 0] 39)) S0
    generalize w3.alloc (.cells #[.int .i64 4, .int .i64 0, tx x.text, .bool false, .int .i64 0, .int .i64 0] 39) = w5 at *
    refine hK.out _ _ ?_ (fun _ => ?_)
    ·
     exact S5
    clear hK K
    refine wpAnyH_ready (rs := [5]) (by kernel_rfl) (by simp) ?_
    refine AllReadyH.cons rfl (fun K hK => ?_) AllReadyH.nil
    go_simp
    refine (sign9_any _ _).mono ?_
    rintro e w4 ⟨rfl, rfl⟩
    refine hK.out _ _ ?_ (fun _ => ?_)
    ·
     exact S5
    clear hK K
    refine tk 6 19 (tx (x.name ++ mSg x.kind)) rfl (fun W hSw => by exact exec_add rfl x.name (mSg x.kind) rfl rfl (by omega) _ rfl W) S5 ?_
    simp only [Act.put, pB, pC, pD]
    refine wpAnyH_ready (rs := [11]) (by kernel_rfl) (by simp) ?_
    refine AllReadyH.cons rfl (fun K hK => ?_) AllReadyH.nil
    go_simp
    refine (hlx _ _ q5 (hev.later C5)).mono ?_
    rintro e w6 ⟨rfl, b6⟩
    have C6 : Below w2.heap.size w2 w6 := C5.trans (b6.mono C5.size)
    have S6 := below_heap b6 S5
    refine hK.out _ _ ?_ (fun _ => ?_)
    ·
     exact S6
    clear hK K
    refine tk 12 25 (tx (mTx x)) rfl (fun W hSw => by exact exec_add rfl (x.name ++ mSg x.kind) (qtx x.text) rfl rfl (by simp; omega) _ rfl W) S6 ?_
    simp only [Act.put, pB, pC, pD]
    generalize mTx x = t at *
    refine wpAnyH_ready (rs := [13]) (by kernel_rfl) (by simp) ?_
    refine AllReadyH.cons rfl (fun K hK => ?_) AllReadyH.nil
    go_simp
    have C7 : Below w2.heap.size w2 (w6.alloc (.cells #[tx t] 9)) := C6.alloc C6.size _
    have S7 := below_heap (bal (Below.refl w6.heap.size w6) (.cells #[tx t] 9)) S6
    have hnw := one_cell (World.cell?_alloc_new w6 #[tx t] 9 0)
    generalize w6.alloc (.cells #[tx t] 9) = w7 at *
    refine hK.out _ _ ?_ (fun _ => ?_)
    ·
     exact S7
    clear hK K
    have ho7 := OwnS.later ho2 C7
    have B7 := B2.trans (C7.mono B2.size)
    refine wpAnyH_ready (rs := [14]) (by kernel_rfl) (by simp) ?_
    refine AllReadyH.cons rfl (fun K hK => ?_) AllReadyH.nil
    refine step_append _ _ (some 27) 26 rfl rfl (by rfl) w.heap.size 9 i0 (tx []) 1 16 Tryz.underlying26 hi hz0 hz1 hz2 rfl (by decide) v _ _ rfl ho7 ⟨w6.heap.size, 0, none⟩ 1 1 [tx t] rfl rfl hnw (fun u hu => by cases hu with | head => rfl | tail _ h => cases h) (by have := HLe.out; unfold maxLen; omega) (by have := HLe.out; omega) B7.size ?_
    intro v' w8 ho8 hg8
    have S8 := grown_heap hg8 S7 hx9
    have B8 := B7.grown hg8 B7.size (fun k hk => (World.ownsRow.lt ho7 k hk).1)
    refine hK.out _ _ ?_ (fun _ => ?_)
    ·
     exact S8
    clear hK K
    refine tk 15 3 (v') rfl (fun W hSw => by go_simp) S8 ?_
    simp only [Act.put, pB, pC, pD]
    refine wpAnyH_done (by kernel_rfl) ?_ _
    refine NoPanic.normal ?_
    go_wp2_with fail
    go_roundw
    case rel => exact ⟨j + 1, _, by omega, by go_num, rfl, by rw [HL.out]; exact OwnS.snoc ho8, B8⟩
    case measure => simp [intOf]; omega
  ·
   have hlt' : ¬ (j : Int) < nm := by omega
   have e : m.take j = m := List.take_of_length_le (by have := HZ.out; omega)
   rw [e] at ho
   have HLe : Hid ((m.map mTx).length ≤ 1000000) := by have := HZ.out; show _ ≤ _; simp; omega
   obtain ⟨ao, cap, rfl, hss, hcp, _⟩ := ho.slice
   have hjn := join9_any (P := fun _ => True) (w := wr) (a := ao) (n := (m.map mTx).length) (c := cap) [44, 32] ⟨ao, cap, rfl, hcp, fun hp => by
    obtain ⟨b, off, e1, hc⟩ := hss.2 hp
    refine ⟨b, off, e1, trivial, fun q hq => ?_⟩
    rw [List.length_map] at hq
    rw [hc q hq]
    have hq' : q < m.length := by simpa using hq
    simp [List.getD, List.getElem?_eq_getElem hq']⟩ HJ.out HLe.out
   have HE : Hid (pMs m = Lib.join (m.map mTx) [44, 32]) := rfl
   generalize Lib.join (m.map mTx) [44, 32] = R at *
   clear e HJ hss hcp ho
   generalize (m.map mTx).length = ml at *
   go_wp2_with fail
   refine hjn.mono ?_
   rintro e w1 ⟨rfl, hb1⟩
   go_wp2_with fail
   go_ret
   exact ⟨by rw [HE.out]; rfl, hb.trans (hb1.mono hb.size)⟩
end Go.Proofs.YteankdaegdhfiaaGreatDoor
namespace Go.Proofs.YteankdaegdhfiaaGreatDoor
open Go.RowKit
def tD (r : Int) : Tk := ⟨3, 0, [], false, 0, r⟩
def dTx (r : Int) : Str := Lib.itoa r ++ [116]
theorem prL_tD (r : Int) : prL [tD r] = dTx r := by
 rw [prL_one _ (by show Lib.itoa r ++ [116] ≠ []; simp)]
 rfl
def selT (t : Str) (os : List Mt) : Str := if t = [] ∨ 0 < os.length then t ++ ([123] ++ pMs os ++ [125]) else t
def selS (m : List Mt) (r : Int) : Str := if 0 < r then selT (ptN m).1 (ptN m).2 ++ ([91] ++ dTx r ++ [93]) else selT (ptN m).1 (ptN m).2
theorem ptN_mem {m : List Mt} {x : Mt} (h : x ∈ (ptN m).2) : x ∈ m := by
 cases m with
 | nil => exact h
 | cons y l =>
  rw [show ptN (y :: l) = if isMet y then (y.text, l) else ([], y :: l) from rfl] at h
  split at h
  ·
   exact List.mem_cons_of_mem _ h
  ·
   exact h
theorem ptN_len (m : List Mt) : (ptN m).2.length ≤ m.length := by
 cases m with
 | nil => exact Nat.le_refl _
 | cons y l =>
  rw [show ptN (y :: l) = if isMet y then (y.text, l) else ([], y :: l) from rfl]
  split
  ·
   simp
  ·
   exact Nat.le_refl _
theorem ptN_text (m : List Mt) : (ptN m).1 = [] ∨ ∃ x ∈ m, (ptN m).1 = x.text := by
 cases m with
 | nil => exact Or.inl rfl
 | cons y l =>
  rw [show ptN (y :: l) = if isMet y then (y.text, l) else ([], y :: l) from rfl]
  split
  ·
   exact Or.inr ⟨y, by simp, rfl⟩
  ·
   exact Or.inl rfl
theorem dTx_len (r : Int) (h0 : 0 ≤ r) (h1 : r ≤ 100) : (dTx r).length ≤ 30 := by
 have := Lib.itoa_length_le r (by omega) (by omega)
 unfold dTx
 simp
 omega
set_option maxHeartbeats 8000000 in
theorem sel9_any {P : Nat → Prop} (k p : Int) (o : Bool) (v : Int) (s : Str) (am an ak : Option Addr) (nm cm nn cn nk ck : Nat) (r : Int) (b1 b2 b3 b4 : Bool) (m : List Mt) (w : World) (hm : SlP P w (.slice am nm cm) m.length (cellsM m)) (hx : ∀ x ∈ m, x.name.length ≤ 100000 ∧ x.text.length ≤ 1000) (hn : nm ≤ 100000) (hl : (pMs (ptN m).2).length ≤ 1000000) (hr0 : 0 ≤ r) (hr1 : r ≤ 100) (he : Ev w) :
  Calls Tryz.prog 75 #[.agg (exA k p o v s (.slice am nm cm) r b1 b2 b3 b4 (.slice an nn cn) (.slice ak nk ck))] w fun e w' => e = .returned (tx (selS m r)) ∧ Below w.heap.size w w' := by
 have em := hm.mats.1
 have hp := fun W (hW : Below w.heap.size w W) => parted_any (SlP.later hm hW) (fun x h => by have := (hx x h).2; unfold Big; omega) (by omega)
 have hdl := dTx_len r hr0 hr1
 have hL : ∀ (W : World) (b : Nat), Below w.heap.size w W → W.heap[b]? = some (.cells #[.int .i64 3, .int .i64 0, tx [], .bool false, .int .i64 0, .int .i64 r] 39) → Calls Tryz.prog 133 #[.slice (some ⟨b, 0, none⟩) 1 1] W fun e w' => e = .returned (tx (dTx r)) ∧ Below W.heap.size W w' := fun W b hW h => by
  have := lex1_any (tD r) b W h ⟨by show 0 ≤ 1000; omega, by show (-9223372036854775808 : Int) ≤ 0; omega, by show (0 : Int) ≤ _; omega, by show (-9223372036854775808 : Int) ≤ r; omega, by show r ≤ _; omega⟩ (by rw [prL_tD]; omega) (he.later hW)
  rwa [prL_tD] at this
 have hnl := ptN_len m
 have htx : (ptN m).1.length ≤ 1000 := by
  rcases ptN_text m with e | ⟨x, h, e⟩
  ·
   rw [e]; simp
  ·
   rw [e]; exact (hx x h).2
 have hM : ∀ W a n c, Below w.heap.size w W → SlP P W (.slice a n c) (ptN m).2.length (cellsM (ptN m).2) → Calls Tryz.prog 132 #[.slice a n c] W fun e w' => e = .returned (tx (pMs (ptN m).2)) ∧ Below W.heap.size W w' := fun W a n c hW h => pMs_any h (fun x h => hx x (ptN_mem h)) (by have := h.mats.1; omega) hl (he.later hW)
 have HS : Hid (selS m r = if 0 < r then selT (ptN m).1 (ptN m).2 ++ ([91] ++ dTx r ++ [93]) else selT (ptN m).1 (ptN m).2) := rfl
 generalize selS m r = RES at *
 generalize (ptN m).1 = t at *
 generalize (ptN m).2 = os at *
 clear hm hx he em hnl
 have HJ0 : ∃ J, Hid (pMs os = J) := ⟨_, rfl⟩
 obtain ⟨J, HJ⟩ := HJ0
 rw [HJ.out] at hM hl
 have qa := heap_new w (.cells (exA k p o v s (.slice am nm cm) r b1 b2 b3 b4 (.slice an nn cn) (.slice ak nk ck)) 29)
 have B1 := bal (Below.refl w.heap.size w) (.cells (exA k p o v s (.slice am nm cm) r b1 b2 b3 b4 (.slice an nn cn) (.slice ak nk ck)) 29)
 go_enter Tryz.func75, Tryz.ntmps75
 go_upto_region 1 with fail
 generalize w.alloc (.cells (exA k p o v s (.slice am nm cm) r b1 b2 b3 b4 (.slice an nn cn) (.slice ak nk ck)) 29) = w1 at *
 have x5 := (cell_at qa 5).trans rfl
 go_wp2_with fail
 refine (hp _ B1).mono ?_
 rintro e w2 ⟨a, n, c, rfl, sl2, b2x⟩
 have B2 := B1.trans (b2x.mono B1.size)
 have qb := below_heap b2x qa
 have hpm := hM w2 a n c B2 (SlP.later sl2 b2x)
 have HNO : Hid (n = os.length) := sl2.mats.1
 have hnc := sl2.mats.2.1
 clear hp hM sl2 x5
 by_cases h0 : t = []
 ·
  subst h0
  have hcond : ([] : Str) = [] ∨ 0 < os.length := Or.inl rfl
  have HT : Hid (selT [] os = [] ++ ([123] ++ J ++ [125])) := by show _ = _; unfold selT; rw [if_pos hcond, HJ.out]
  clear hcond
  go_wp2_with (refine wp_add rfl 9 9 _ _ rfl _ _ rfl rfl (by simp; omega) ?_)
  refine hpm.mono ?_
  rintro e w3 ⟨rfl, b3x⟩
  have B3 := B2.trans (b3x.mono B2.size)
  have qc := below_heap b3x qb
  have x6 := (cell_at qc 6).trans rfl
  by_cases hr : 0 < r
  ·
   have HR2 := HS.out
   rw [if_pos hr, HT.out] at HR2
   have HR3 : Hid _ := HR2
   clear HS HT HR2
   have q9 := heap_new w3 (.cells #[.int .i64 3, .int .i64 0, tx [], .bool false, .int .i64 0, .int .i64 r] 39)
   have B9 := bal B3 (.cells #[.int .i64 3, .int .i64 0, tx [], .bool false, .int .i64 0, .int .i64 r] 39)
   have hlx := hL _ w3.heap.size B9 q9
   go_wp2_with (refine wp_add rfl 9 9 _ _ rfl _ _ rfl rfl (by simp; omega) ?_)
   refine hlx.mono ?_
   rintro e wz ⟨rfl, bz⟩
   have Bz := B9.trans (bz.mono B9.size)
   clear q9 B9 hlx
   go_wp2_with (refine wp_add rfl 9 9 _ _ rfl _ _ rfl rfl (by simp; omega) ?_)
   go_ret
   exact ⟨by rw [HR3.out]; simp, Bz⟩
  ·
   have HR2 := HS.out
   rw [if_neg hr, HT.out] at HR2
   have HR3 : Hid _ := HR2
   clear HS HT HR2
   go_wp2_with (refine wp_add rfl 9 9 _ _ rfl _ _ rfl rfl (by simp; omega) ?_)
   go_ret
   exact ⟨by rw [HR3.out]; simp, B3⟩
 ·
  have t0 : (t == []) = false := beq_eq_false_iff_ne.2 h0
  by_cases hz : n = 0
  ·
   have HT : Hid (selT t os = t) := by show _ = _; unfold selT; rw [if_neg (by have := HNO.out; rintro (e | e); exact h0 e; omega)]
   clear HNO
   subst hz
   clear hpm
   have x6 := (cell_at qb 6).trans rfl
   by_cases hr : 0 < r
   ·
    have HR2 := HS.out
    rw [if_pos hr, HT.out] at HR2
    have HR3 : Hid _ := HR2
    clear HS HT HR2
    have q9 := heap_new w2 (.cells #[.int .i64 3, .int .i64 0, tx [], .bool false, .int .i64 0, .int .i64 r] 39)
    have B9 := bal B2 (.cells #[.int .i64 3, .int .i64 0, tx [], .bool false, .int .i64 0, .int .i64 r] 39)
    have hlx := hL _ w2.heap.size B9 q9
    go_wp2_with (refine wp_add rfl 9 9 _ _ rfl _ _ rfl rfl (by simp; omega) ?_)
    refine hlx.mono ?_
    rintro e wz ⟨rfl, bz⟩
    have Bz := B9.trans (bz.mono B9.size)
    clear q9 B9 hlx
    go_wp2_with (refine wp_add rfl 9 9 _ _ rfl _ _ rfl rfl (by simp; omega) ?_)
    go_ret
    exact ⟨by rw [HR3.out]; simp, Bz⟩
   ·
    have HR2 := HS.out
    rw [if_neg hr, HT.out] at HR2
    have HR3 : Hid _ := HR2
    clear HS HT HR2
    go_wp2_with (refine wp_add rfl 9 9 _ _ rfl _ _ rfl rfl (by simp; omega) ?_)
    go_ret
    exact ⟨by rw [HR3.out]; simp, B2⟩
  ·
   have hz' : (0 : Int) < n := by omega
   have hcond : t = [] ∨ 0 < os.length := Or.inr (by have := HNO.out; omega)
   have HT : Hid (selT t os = t ++ ([123] ++ J ++ [125])) := by show _ = _; unfold selT; rw [if_pos hcond, HJ.out]
   clear hcond
   go_wp2_with (refine wp_add rfl 9 9 _ _ rfl _ _ rfl rfl (by simp; omega) ?_)
   refine hpm.mono ?_
   rintro e w3 ⟨rfl, b3x⟩
   have B3 := B2.trans (b3x.mono B2.size)
   have qc := below_heap b3x qb
   have x6 := (cell_at qc 6).trans rfl
   by_cases hr : 0 < r
   ·
    have HR2 := HS.out
    rw [if_pos hr, HT.out] at HR2
    have HR3 : Hid _ := HR2
    clear HS HT HR2
    have q9 := heap_new w3 (.cells #[.int .i64 3, .int .i64 0, tx [], .bool false, .int .i64 0, .int .i64 r] 39)
    have B9 := bal B3 (.cells #[.int .i64 3, .int .i64 0, tx [], .bool false, .int .i64 0, .int .i64 r] 39)
    have hlx := hL _ w3.heap.size B9 q9
    go_wp2_with (refine wp_add rfl 9 9 _ _ rfl _ _ rfl rfl (by simp; omega) ?_)
    refine hlx.mono ?_
    rintro e wz ⟨rfl, bz⟩
    have Bz := B9.trans (bz.mono B9.size)
    clear q9 B9 hlx
    go_wp2_with (refine wp_add rfl 9 9 _ _ rfl _ _ rfl rfl (by simp; omega) ?_)
    go_ret
    exact ⟨by rw [HR3.out]; simp, Bz⟩
   ·
    have HR2 := HS.out
    rw [if_neg hr, HT.out] at HR2
    have HR3 : Hid _ := HR2
    clear HS HT HR2
    go_wp2_with (refine wp_add rfl 9 9 _ _ rfl _ _ rfl rfl (by simp; omega) ?_)
    go_ret
    exact ⟨by rw [HR3.out]; simp, B3⟩
end Go.Proofs.YteankdaegdhfiaaGreatDoor
namespace Go.Proofs.YteankdaegdhfiaaGreatDoor
open Go.RowKit
theorem exec_getm {a : Act} {o : Oper} (x : Operand) (ho : o.op = .load 29 x) (b off : Nat) (cs : Array Value) (hx : a.eval x = .pointer (some ⟨b, off, none⟩)) (W : World) (hr : W.rangeAt b off cs.toList) (hn : cs.size = 13) : (execOp a.eval o).run Tryz.prog W = .ok (.value (.agg cs)) W := by
 unfold execOp
 simp only [ho, hx, Instr.loadAt, Instr.sureAddr, Sem.run_bind, Sem.run_pure, Result.andThen_ok, run_loadVar_mid W b off 29 cs.toList _ hr Tryz.underlying29 rfl (by rw [inf29]; simp [hn])]
theorem range_later {w w' : World} {b o : Nat} {cs : List Value} (h : w.rangeAt b o cs) (hb : Below w.heap.size w w') : w'.rangeAt b o cs := range_off h (Off.of hb []) (by simp)
set_option maxHeartbeats 8000000 in
theorem prt1 (p : Int) (o : Bool) (v : Int) (s : Str) (am an : Option Addr) (nm cm nn cn : Nat) (r : Int) (b1 b2 b3 b4 : Bool) (ak : Option Addr) (nk ck : Nat) (w : World) (h0 : -9223372036854775808 ≤ v) (h1 : v ≤ 9223372036854775807) (he : Ev w) :
  Calls Tryz.prog 48 #[.agg (exA 1 p o v s (.slice am nm cm) r b1 b2 b3 b4 (.slice an nn cn) (.slice ak nk ck))] w fun e w' => e = .returned (tx (Fx.fPrint (Fx.cnt o v))) ∧ Below w.heap.size w w' := by
 have qa := heap_new w (.cells (exA 1 p o v s (.slice am nm cm) r b1 b2 b3 b4 (.slice an nn cn) (.slice ak nk ck)) 29)
 have B1 := bal (Below.refl w.heap.size w) (.cells (exA 1 p o v s (.slice am nm cm) r b1 b2 b3 b4 (.slice an nn cn) (.slice ak nk ck)) 29)
 have hp := Fx.print_any o v (w.alloc (.cells (exA 1 p o v s (.slice am nm cm) r b1 b2 b3 b4 (.slice an nn cn) (.slice ak nk ck)) 29)) ⟨h0, h1⟩ (he.later B1).tab
 go_enter Tryz.func48, Tryz.ntmps48
 have x0 := (cell_at qa 0).trans rfl
 have x2 := (cell_at qa 2).trans rfl
 have x3 := (cell_at qa 3).trans rfl
 go_wp2_with fail
 refine hp.mono ?_
 rintro e w3 ⟨rfl, b3⟩
 go_wp2_with fail
 go_ret
 exact ⟨rfl, B1.trans (b3.mono B1.size)⟩
set_option maxHeartbeats 8000000 in
theorem prt2 (p : Int) (o : Bool) (v : Int) (s : Str) (am an : Option Addr) (nm cm nn cn : Nat) (r : Int) (b1 b2 b3 b4 : Bool) (ak : Option Addr) (nk ck : Nat) (T : Str) (w : World) (hs : ∀ W, Below w.heap.size w W → Calls Tryz.prog 75 #[.agg (exA 2 p o v s (.slice am nm cm) r b1 b2 b3 b4 (.slice an nn cn) (.slice ak nk ck))] W fun e w' => e = .returned (tx T) ∧ Below W.heap.size W w') :
  Calls Tryz.prog 48 #[.agg (exA 2 p o v s (.slice am nm cm) r b1 b2 b3 b4 (.slice an nn cn) (.slice ak nk ck))] w fun e w' => e = .returned (tx T) ∧ Below w.heap.size w w' := by
 have qa := heap_new w (.cells (exA 2 p o v s (.slice am nm cm) r b1 b2 b3 b4 (.slice an nn cn) (.slice ak nk ck)) 29)
 have B1 := bal (Below.refl w.heap.size w) (.cells (exA 2 p o v s (.slice am nm cm) r b1 b2 b3 b4 (.slice an nn cn) (.slice ak nk ck)) 29)
 go_enter Tryz.func48, Tryz.ntmps48
 have x0 := (cell_at qa 0).trans rfl
 have x1 := (cell_at qa 1).trans rfl
 have x2 := (cell_at qa 2).trans rfl
 have x3 := (cell_at qa 3).trans rfl
 have x4 := (cell_at qa 4).trans rfl
 have x5 := (cell_at qa 5).trans rfl
 have x6 := (cell_at qa 6).trans rfl
 have x7 := (cell_at qa 7).trans rfl
 have x8 := (cell_at qa 8).trans rfl
 have x9 := (cell_at qa 9).trans rfl
 have x10 := (cell_at qa 10).trans rfl
 have x11 := (cell_at qa 11).trans rfl
 have x12 := (cell_at qa 12).trans rfl
 go_wp2_with fail
 refine (hs _ B1).mono ?_
 rintro e w3 ⟨rfl, b3⟩
 go_wp2_with fail
 go_ret
 exact ⟨rfl, B1.trans (b3.mono B1.size)⟩
set_option maxHeartbeats 8000000 in
theorem prt3 (p : Int) (o : Bool) (v : Int) (s : Str) (am an : Option Addr) (nm cm nn cn : Nat) (r : Int) (b1 b2 b3 b4 : Bool) (b off ck : Nat) (ci : Array Value) (T : Str) (w : World) (hk : ∀ W, Below w.heap.size w W → Calls Tryz.prog 48 #[.agg ci] W fun e w' => e = .returned (tx T) ∧ Below W.heap.size W w') (hr : w.rangeAt b off ci.toList) (hn : ci.size = 13) (hl : s.length + T.length ≤ 3000000) :
  Calls Tryz.prog 48 #[.agg (exA 3 p o v s (.slice am nm cm) r b1 b2 b3 b4 (.slice an nn cn) (.slice (some ⟨b, off, none⟩) 1 ck))] w fun e w' => e = .returned (tx (s ++ [40] ++ T ++ [41])) ∧ Below w.heap.size w w' := by
 have qa := heap_new w (.cells (exA 3 p o v s (.slice am nm cm) r b1 b2 b3 b4 (.slice an nn cn) (.slice (some ⟨b, off, none⟩) 1 ck)) 29)
 have B1 := bal (Below.refl w.heap.size w) (.cells (exA 3 p o v s (.slice am nm cm) r b1 b2 b3 b4 (.slice an nn cn) (.slice (some ⟨b, off, none⟩) 1 ck)) 29)
 go_enter Tryz.func48, Tryz.ntmps48
 have x0 := (cell_at qa 0).trans rfl
 go_upto_region 7 with fail
 clear x0
 generalize w.alloc (.cells (exA 3 p o v s (.slice am nm cm) r b1 b2 b3 b4 (.slice an nn cn) (.slice (some ⟨b, off, none⟩) 1 ck)) 29) = w1 at *
 have C0 := drew_below w1
 refine wp_region_noPanic ?_
 refine wp_region_held_drew (S := fun W => Below w1.heap.size w1 W) (by kernel_rfl) ?_ (fun _ => ?_)
 ·
  exact C0
 generalize w1.drew = w2 at *
 refine tk 0 16 (.pointer (some ⟨w.heap.size, 4, none⟩)) rfl (fun W hSw => by go_simp) C0 ?_
 simp only [Act.put, pB, pC, pD]
 refine tk 1 17 (tx s) rfl (fun W hSw => by (have hc := (cell_at (below_heap hSw qa) 4).trans rfl; go_simp)) C0 ?_
 simp only [Act.put, pB, pC, pD]
 refine tk 2 18 (tx (s ++ [40])) rfl (fun W hSw => by exact exec_add rfl s [40] rfl rfl (by simp; omega) _ (by simp) W) C0 ?_
 simp only [Act.put, pB, pC, pD]
 refine tk 3 19 (.pointer (some ⟨w.heap.size, 12, none⟩)) rfl (fun W hSw => by go_simp) C0 ?_
 simp only [Act.put, pB, pC, pD]
 refine tk 4 20 (.slice (some ⟨b, off, none⟩) 1 ck) rfl (fun W hSw => by (have hc := (cell_at (below_heap hSw qa) 12).trans rfl; go_simp)) C0 ?_
 simp only [Act.put, pB, pC, pD]
 refine tk 5 21 (.pointer (some ⟨b, off, none⟩)) rfl (fun W hSw => by go_simp) C0 ?_
 simp only [Act.put, pB, pC, pD]
 refine tk 6 22 (.agg ci) rfl (fun W hSw => by exact exec_getm _ rfl b (off) ci rfl W (range_later hr (B1.trans (hSw.mono B1.size))) hn) C0 ?_
 simp only [Act.put, pB, pC, pD]
 refine wpAnyH_ready (rs := [7]) (by kernel_rfl) (by simp) ?_
 refine AllReadyH.cons rfl (fun K hK => ?_) AllReadyH.nil
 go_simp
 refine (hk _ (B1.trans (C0.mono B1.size))).mono ?_
 rintro e w3 ⟨rfl, b_w3⟩
 have C1 : Below w1.heap.size w1 w3 := C0.trans (b_w3.mono C0.size)
 refine hK.out _ _ ?_ (fun _ => ?_)
 ·
  exact C1
 clear hK K
 refine tk 8 24 (tx (s ++ [40] ++ T)) rfl (fun W hSw => by exact exec_add rfl (s ++ [40]) T rfl rfl (by simp; omega) _ (by simp) W) C1 ?_
 simp only [Act.put, pB, pC, pD]
 refine tk 9 25 (tx (s ++ [40] ++ T ++ [41])) rfl (fun W hSw => by exact exec_add rfl (s ++ [40] ++ T) [41] rfl rfl (by simp; omega) _ (by simp) W) C1 ?_
 simp only [Act.put, pB, pC, pD]
 refine tk 10 2 (tx (s ++ [40] ++ T ++ [41])) rfl (fun W hSw => by go_simp) C1 ?_
 simp only [Act.put, pB, pC, pD]
 refine wpAnyH_done (by kernel_rfl) ?_ _
 refine NoPanic.normal ?_
 go_wp2_with fail
 go_ret
 exact ⟨by simp, B1.trans (C1.mono B1.size)⟩
set_option maxHeartbeats 8000000 in
theorem prt6 (p : Int) (o : Bool) (v : Int) (s : Str) (am an : Option Addr) (nm cm nn cn : Nat) (r : Int) (b1 b2 b3 b4 : Bool) (b off ck : Nat) (ci : Array Value) (T : Str) (w : World) (hk : ∀ W, Below w.heap.size w W → Calls Tryz.prog 48 #[.agg ci] W fun e w' => e = .returned (tx T) ∧ Below W.heap.size W w') (hr : w.rangeAt b off ci.toList) (hn : ci.size = 13) (hl : T.length ≤ 3000000) :
  Calls Tryz.prog 48 #[.agg (exA 6 p o v s (.slice am nm cm) r b1 b2 b3 b4 (.slice an nn cn) (.slice (some ⟨b, off, none⟩) 1 ck))] w fun e w' => e = .returned (tx ([45] ++ T)) ∧ Below w.heap.size w w' := by
 have qa := heap_new w (.cells (exA 6 p o v s (.slice am nm cm) r b1 b2 b3 b4 (.slice an nn cn) (.slice (some ⟨b, off, none⟩) 1 ck)) 29)
 have B1 := bal (Below.refl w.heap.size w) (.cells (exA 6 p o v s (.slice am nm cm) r b1 b2 b3 b4 (.slice an nn cn) (.slice (some ⟨b, off, none⟩) 1 ck)) 29)
 go_enter Tryz.func48, Tryz.ntmps48
 have x0 := (cell_at qa 0).trans rfl
 have x12 := (cell_at qa 12).trans rfl
 go_wp2_with (refine wp_getm rfl _ rfl b off ci rfl (range_later hr B1) hn ?_)
 refine (hk _ B1).mono ?_
 rintro e w3 ⟨rfl, b3⟩
 go_wp2_with (refine wp_add rfl 9 9 _ _ rfl _ _ rfl rfl (by simp; omega) ?_)
 go_ret
 exact ⟨by simp, B1.trans (b3.mono B1.size)⟩
end Go.Proofs.YteankdaegdhfiaaGreatDoor
namespace Go.Proofs.YteankdaegdhfiaaGreatDoor
open Go.RowKit
set_option maxHeartbeats 8000000 in
theorem prt4 (p : Int) (o : Bool) (v : Int) (s : Str) (am an : Option Addr) (nm cm nn cn : Nat) (r : Int) (b1 b2 b3 b4 : Bool) (b off ck : Nat) (ci : Array Value) (T G : Str) (w : World) (hk : ∀ W, Below w.heap.size w W → Calls Tryz.prog 48 #[.agg ci] W fun e w' => e = .returned (tx T) ∧ Below W.heap.size W w') (hr : w.rangeAt b off ci.toList) (hn : ci.size = 13) (hg : ∀ W, Below w.heap.size w W → Calls Tryz.prog 76 #[.agg (exA 4 p o v s (.slice am nm cm) r b1 b2 b3 b4 (.slice an nn cn) (.slice (some ⟨b, off, none⟩) 1 ck))] W fun e w' => e = .returned (tx G) ∧ Below W.heap.size W w') (hl : s.length + T.length + G.length ≤ 3000000) :
  Calls Tryz.prog 48 #[.agg (exA 4 p o v s (.slice am nm cm) r b1 b2 b3 b4 (.slice an nn cn) (.slice (some ⟨b, off, none⟩) 1 ck))] w fun e w' => e = .returned (tx (s ++ [32] ++ G ++ [40] ++ T ++ [41])) ∧ Below w.heap.size w w' := by
 obtain ⟨T1, HT1⟩ : ∃ q : Str, Hid (q = s ++ [32]) := ⟨s ++ [32], rfl⟩
 have lT1 : T1.length ≤ List.length s + List.length [32] := by rw [HT1.out, List.length_append]; exact Nat.le_refl _
 obtain ⟨T2, HT2⟩ : ∃ q : Str, Hid (q = T1 ++ G) := ⟨T1 ++ G, rfl⟩
 have lT2 : T2.length ≤ List.length T1 + List.length G := by rw [HT2.out, List.length_append]; exact Nat.le_refl _
 obtain ⟨T3, HT3⟩ : ∃ q : Str, Hid (q = T2 ++ [40]) := ⟨T2 ++ [40], rfl⟩
 have lT3 : T3.length ≤ List.length T2 + List.length [40] := by rw [HT3.out, List.length_append]; exact Nat.le_refl _
 obtain ⟨T4, HT4⟩ : ∃ q : Str, Hid (q = T3 ++ T) := ⟨T3 ++ T, rfl⟩
 have lT4 : T4.length ≤ List.length T3 + List.length T := by rw [HT4.out, List.length_append]; exact Nat.le_refl _
 obtain ⟨T5, HT5⟩ : ∃ q : Str, Hid (q = T4 ++ [41]) := ⟨T4 ++ [41], rfl⟩
 have lT5 : T5.length ≤ List.length T4 + List.length [41] := by rw [HT5.out, List.length_append]; exact Nat.le_refl _
 simp only [List.length_cons, List.length_nil] at lT1 lT2 lT3 lT4 lT5
 have qa := heap_new w (.cells (exA 4 p o v s (.slice am nm cm) r b1 b2 b3 b4 (.slice an nn cn) (.slice (some ⟨b, off, none⟩) 1 ck)) 29)
 have B1 := bal (Below.refl w.heap.size w) (.cells (exA 4 p o v s (.slice am nm cm) r b1 b2 b3 b4 (.slice an nn cn) (.slice (some ⟨b, off, none⟩) 1 ck)) 29)
 go_enter Tryz.func48, Tryz.ntmps48
 have x0 := (cell_at qa 0).trans rfl
 go_upto_region 9 with fail
 clear x0
 generalize w.alloc (.cells (exA 4 p o v s (.slice am nm cm) r b1 b2 b3 b4 (.slice an nn cn) (.slice (some ⟨b, off, none⟩) 1 ck)) 29) = w1 at *
 have C0 := drew_below w1
 refine wp_region_noPanic ?_
 refine wp_region_held_drew (S := fun W => Below w1.heap.size w1 W) (by kernel_rfl) ?_ (fun _ => ?_)
 ·
  exact C0
 generalize w1.drew = w2 at *
 refine tk 0 28 (.pointer (some ⟨w.heap.size, 4, none⟩)) rfl (fun W hSw => by go_simp) C0 ?_
 simp only [Act.put, pB, pC, pD]
 refine tk 1 29 (tx s) rfl (fun W hSw => by (have hc := (cell_at (below_heap hSw qa) 4).trans rfl; go_simp)) C0 ?_
 simp only [Act.put, pB, pC, pD]
 refine tk 2 30 (tx T1) rfl (fun W hSw => by exact exec_add rfl s [32] rfl rfl (by first | omega | (simp only [List.length_cons, List.length_nil]; omega)) T1 HT1.out W) C0 ?_
 simp only [Act.put, pB, pC, pD]
 refine tk 3 31 (.agg (exA 4 p o v s (.slice am nm cm) r b1 b2 b3 b4 (.slice an nn cn) (.slice (some ⟨b, off, none⟩) 1 ck))) rfl (fun W hSw => by exact exec_get 29 _ rfl w.heap.size (exA 4 p o v s (.slice am nm cm) r b1 b2 b3 b4 (.slice an nn cn) (.slice (some ⟨b, off, none⟩) 1 ck)) 29 rfl W (below_heap hSw qa) _ Tryz.underlying29 rfl 13 inf29 rfl) C0 ?_
 simp only [Act.put, pB, pC, pD]
 refine tk 7 35 (.pointer (some ⟨w.heap.size, 12, none⟩)) rfl (fun W hSw => by go_simp) C0 ?_
 simp only [Act.put, pB, pC, pD]
 refine tk 8 36 (.slice (some ⟨b, off, none⟩) 1 ck) rfl (fun W hSw => by (have hc := (cell_at (below_heap hSw qa) 12).trans rfl; go_simp)) C0 ?_
 simp only [Act.put, pB, pC, pD]
 refine tk 9 37 (.pointer (some ⟨b, off, none⟩)) rfl (fun W hSw => by go_simp) C0 ?_
 simp only [Act.put, pB, pC, pD]
 refine tk 10 38 (.agg ci) rfl (fun W hSw => by exact exec_getm _ rfl b (off) ci rfl W (range_later hr (B1.trans (hSw.mono B1.size))) hn) C0 ?_
 simp only [Act.put, pB, pC, pD]
 refine wpAnyH_ready (rs := [4]) (by kernel_rfl) (by simp) ?_
 refine AllReadyH.cons rfl (fun K hK => ?_) AllReadyH.nil
 go_simp
 refine (hg _ (B1.trans (C0.mono B1.size))).mono ?_
 rintro e w3 ⟨rfl, b_w3⟩
 have C1 : Below w1.heap.size w1 w3 := C0.trans (b_w3.mono C0.size)
 refine hK.out _ _ ?_ (fun _ => ?_)
 ·
  exact C1
 clear hK K
 refine tk 5 33 (tx T2) rfl (fun W hSw => by exact exec_add rfl T1 G rfl rfl (by first | omega | (simp only [List.length_cons, List.length_nil]; omega)) T2 HT2.out W) C1 ?_
 simp only [Act.put, pB, pC, pD]
 refine tk 6 34 (tx T3) rfl (fun W hSw => by exact exec_add rfl T2 [40] rfl rfl (by first | omega | (simp only [List.length_cons, List.length_nil]; omega)) T3 HT3.out W) C1 ?_
 simp only [Act.put, pB, pC, pD]
 refine wpAnyH_ready (rs := [11]) (by kernel_rfl) (by simp) ?_
 refine AllReadyH.cons rfl (fun K hK => ?_) AllReadyH.nil
 go_simp
 refine (hk _ (B1.trans (C1.mono B1.size))).mono ?_
 rintro e w4 ⟨rfl, b_w4⟩
 have C2 : Below w1.heap.size w1 w4 := C1.trans (b_w4.mono C1.size)
 refine hK.out _ _ ?_ (fun _ => ?_)
 ·
  exact C2
 clear hK K
 refine tk 12 40 (tx T4) rfl (fun W hSw => by exact exec_add rfl T3 T rfl rfl (by first | omega | (simp only [List.length_cons, List.length_nil]; omega)) T4 HT4.out W) C2 ?_
 simp only [Act.put, pB, pC, pD]
 refine tk 13 41 (tx T5) rfl (fun W hSw => by exact exec_add rfl T4 [41] rfl rfl (by first | omega | (simp only [List.length_cons, List.length_nil]; omega)) T5 HT5.out W) C2 ?_
 simp only [Act.put, pB, pC, pD]
 refine tk 14 2 (tx T5) rfl (fun W hSw => by go_simp) C2 ?_
 simp only [Act.put, pB, pC, pD]
 refine wpAnyH_done (by kernel_rfl) ?_ _
 refine NoPanic.normal ?_
 go_wp2_with fail
 go_ret
 exact ⟨by show Ending.returned (tx T5) = _; rw [HT5.out, HT4.out, HT3.out, HT2.out, HT1.out], B1.trans (C2.mono B1.size)⟩
set_option maxHeartbeats 8000000 in
theorem prt5 (p : Int) (o : Bool) (v : Int) (s : Str) (am an : Option Addr) (nm cm nn cn : Nat) (r : Int) (b1 b2 b3 b4 : Bool) (b off ck : Nat) (ci cj : Array Value) (T U G : Str) (w : World) (hk : ∀ W, Below w.heap.size w W → Calls Tryz.prog 48 #[.agg ci] W fun e w' => e = .returned (tx T) ∧ Below W.heap.size W w') (hr : w.rangeAt b off ci.toList) (hn : ci.size = 13) (hk2 : ∀ W, Below w.heap.size w W → Calls Tryz.prog 48 #[.agg cj] W fun e w' => e = .returned (tx U) ∧ Below W.heap.size W w') (hr2 : w.rangeAt b (off + 13) cj.toList) (hn2 : cj.size = 13) (hg : ∀ W, Below w.heap.size w W → Calls Tryz.prog 76 #[.agg (exA 5 p o v s (.slice am nm cm) r b1 b2 b3 b4 (.slice an nn cn) (.slice (some ⟨b, off, none⟩) 2 ck))] W fun e w' => e = .returned (tx G) ∧ Below W.heap.size W w') (hl : s.length + T.length + G.length + U.length ≤ 4000000) :
  Calls Tryz.prog 48 #[.agg (exA 5 p o v s (.slice am nm cm) r b1 b2 b3 b4 (.slice an nn cn) (.slice (some ⟨b, off, none⟩) 2 ck))] w fun e w' => e = .returned (tx ([40] ++ T ++ [32] ++ s ++ [32] ++ G ++ U ++ [41])) ∧ Below w.heap.size w w' := by
 obtain ⟨T1, HT1⟩ : ∃ q : Str, Hid (q = [40] ++ T) := ⟨[40] ++ T, rfl⟩
 have lT1 : T1.length ≤ List.length [40] + List.length T := by rw [HT1.out, List.length_append]; exact Nat.le_refl _
 obtain ⟨T2, HT2⟩ : ∃ q : Str, Hid (q = T1 ++ [32]) := ⟨T1 ++ [32], rfl⟩
 have lT2 : T2.length ≤ List.length T1 + List.length [32] := by rw [HT2.out, List.length_append]; exact Nat.le_refl _
 obtain ⟨T3, HT3⟩ : ∃ q : Str, Hid (q = T2 ++ s) := ⟨T2 ++ s, rfl⟩
 have lT3 : T3.length ≤ List.length T2 + List.length s := by rw [HT3.out, List.length_append]; exact Nat.le_refl _
 obtain ⟨T4, HT4⟩ : ∃ q : Str, Hid (q = T3 ++ [32]) := ⟨T3 ++ [32], rfl⟩
 have lT4 : T4.length ≤ List.length T3 + List.length [32] := by rw [HT4.out, List.length_append]; exact Nat.le_refl _
 obtain ⟨T5, HT5⟩ : ∃ q : Str, Hid (q = T4 ++ G) := ⟨T4 ++ G, rfl⟩
 have lT5 : T5.length ≤ List.length T4 + List.length G := by rw [HT5.out, List.length_append]; exact Nat.le_refl _
 obtain ⟨T6, HT6⟩ : ∃ q : Str, Hid (q = T5 ++ U) := ⟨T5 ++ U, rfl⟩
 have lT6 : T6.length ≤ List.length T5 + List.length U := by rw [HT6.out, List.length_append]; exact Nat.le_refl _
 obtain ⟨T7, HT7⟩ : ∃ q : Str, Hid (q = T6 ++ [41]) := ⟨T6 ++ [41], rfl⟩
 have lT7 : T7.length ≤ List.length T6 + List.length [41] := by rw [HT7.out, List.length_append]; exact Nat.le_refl _
 simp only [List.length_cons, List.length_nil] at lT1 lT2 lT3 lT4 lT5 lT6 lT7
 have qa := heap_new w (.cells (exA 5 p o v s (.slice am nm cm) r b1 b2 b3 b4 (.slice an nn cn) (.slice (some ⟨b, off, none⟩) 2 ck)) 29)
 have B1 := bal (Below.refl w.heap.size w) (.cells (exA 5 p o v s (.slice am nm cm) r b1 b2 b3 b4 (.slice an nn cn) (.slice (some ⟨b, off, none⟩) 2 ck)) 29)
 go_enter Tryz.func48, Tryz.ntmps48
 have x0 := (cell_at qa 0).trans rfl
 go_upto_region 11 with fail
 clear x0
 generalize w.alloc (.cells (exA 5 p o v s (.slice am nm cm) r b1 b2 b3 b4 (.slice an nn cn) (.slice (some ⟨b, off, none⟩) 2 ck)) 29) = w1 at *
 have C0 := drew_below w1
 refine wp_region_noPanic ?_
 refine wp_region_held_drew (S := fun W => Below w1.heap.size w1 W) (by kernel_rfl) ?_ (fun _ => ?_)
 ·
  exact C0
 generalize w1.drew = w2 at *
 refine tk 0 44 (.pointer (some ⟨w.heap.size, 12, none⟩)) rfl (fun W hSw => by go_simp) C0 ?_
 simp only [Act.put, pB, pC, pD]
 refine tk 1 45 (.slice (some ⟨b, off, none⟩) 2 ck) rfl (fun W hSw => by (have hc := (cell_at (below_heap hSw qa) 12).trans rfl; go_simp)) C0 ?_
 simp only [Act.put, pB, pC, pD]
 refine tk 2 46 (.pointer (some ⟨b, off, none⟩)) rfl (fun W hSw => by go_simp) C0 ?_
 simp only [Act.put, pB, pC, pD]
 refine tk 3 47 (.agg ci) rfl (fun W hSw => by exact exec_getm _ rfl b (off) ci rfl W (range_later hr (B1.trans (hSw.mono B1.size))) hn) C0 ?_
 simp only [Act.put, pB, pC, pD]
 refine tk 7 51 (.pointer (some ⟨w.heap.size, 4, none⟩)) rfl (fun W hSw => by go_simp) C0 ?_
 simp only [Act.put, pB, pC, pD]
 refine tk 8 52 (tx s) rfl (fun W hSw => by (have hc := (cell_at (below_heap hSw qa) 4).trans rfl; go_simp)) C0 ?_
 simp only [Act.put, pB, pC, pD]
 refine tk 11 55 (.agg (exA 5 p o v s (.slice am nm cm) r b1 b2 b3 b4 (.slice an nn cn) (.slice (some ⟨b, off, none⟩) 2 ck))) rfl (fun W hSw => by exact exec_get 29 _ rfl w.heap.size (exA 5 p o v s (.slice am nm cm) r b1 b2 b3 b4 (.slice an nn cn) (.slice (some ⟨b, off, none⟩) 2 ck)) 29 rfl W (below_heap hSw qa) _ Tryz.underlying29 rfl 13 inf29 rfl) C0 ?_
 simp only [Act.put, pB, pC, pD]
 refine tk 14 58 (.pointer (some ⟨w.heap.size, 12, none⟩)) rfl (fun W hSw => by go_simp) C0 ?_
 simp only [Act.put, pB, pC, pD]
 refine tk 15 59 (.slice (some ⟨b, off, none⟩) 2 ck) rfl (fun W hSw => by (have hc := (cell_at (below_heap hSw qa) 12).trans rfl; go_simp)) C0 ?_
 simp only [Act.put, pB, pC, pD]
 refine tk 16 60 (.pointer (some ⟨b, off + 13, none⟩)) rfl (fun W hSw => by go_simp) C0 ?_
 simp only [Act.put, pB, pC, pD]
 refine tk 17 61 (.agg cj) rfl (fun W hSw => by exact exec_getm _ rfl b (off + 13) cj rfl W (range_later hr2 (B1.trans (hSw.mono B1.size))) hn2) C0 ?_
 simp only [Act.put, pB, pC, pD]
 refine wpAnyH_ready (rs := [4]) (by kernel_rfl) (by simp) ?_
 refine AllReadyH.cons rfl (fun K hK => ?_) AllReadyH.nil
 go_simp
 refine (hk _ (B1.trans (C0.mono B1.size))).mono ?_
 rintro e w3 ⟨rfl, b_w3⟩
 have C1 : Below w1.heap.size w1 w3 := C0.trans (b_w3.mono C0.size)
 refine hK.out _ _ ?_ (fun _ => ?_)
 ·
  exact C1
 clear hK K
 refine tk 5 49 (tx T1) rfl (fun W hSw => by exact exec_add rfl [40] T rfl rfl (by first | omega | (simp only [List.length_cons, List.length_nil]; omega)) T1 HT1.out W) C1 ?_
 simp only [Act.put, pB, pC, pD]
 refine tk 6 50 (tx T2) rfl (fun W hSw => by exact exec_add rfl T1 [32] rfl rfl (by first | omega | (simp only [List.length_cons, List.length_nil]; omega)) T2 HT2.out W) C1 ?_
 simp only [Act.put, pB, pC, pD]
 refine tk 9 53 (tx T3) rfl (fun W hSw => by exact exec_add rfl T2 s rfl rfl (by first | omega | (simp only [List.length_cons, List.length_nil]; omega)) T3 HT3.out W) C1 ?_
 simp only [Act.put, pB, pC, pD]
 refine tk 10 54 (tx T4) rfl (fun W hSw => by exact exec_add rfl T3 [32] rfl rfl (by first | omega | (simp only [List.length_cons, List.length_nil]; omega)) T4 HT4.out W) C1 ?_
 simp only [Act.put, pB, pC, pD]
 refine wpAnyH_ready (rs := [12]) (by kernel_rfl) (by simp) ?_
 refine AllReadyH.cons rfl (fun K hK => ?_) AllReadyH.nil
 go_simp
 refine (hg _ (B1.trans (C1.mono B1.size))).mono ?_
 rintro e w4 ⟨rfl, b_w4⟩
 have C2 : Below w1.heap.size w1 w4 := C1.trans (b_w4.mono C1.size)
 refine hK.out _ _ ?_ (fun _ => ?_)
 ·
  exact C2
 clear hK K
 refine tk 13 57 (tx T5) rfl (fun W hSw => by exact exec_add rfl T4 G rfl rfl (by first | omega | (simp only [List.length_cons, List.length_nil]; omega)) T5 HT5.out W) C2 ?_
 simp only [Act.put, pB, pC, pD]
 refine wpAnyH_ready (rs := [18]) (by kernel_rfl) (by simp) ?_
 refine AllReadyH.cons rfl (fun K hK => ?_) AllReadyH.nil
 go_simp
 refine (hk2 _ (B1.trans (C2.mono B1.size))).mono ?_
 rintro e w5 ⟨rfl, b_w5⟩
 have C3 : Below w1.heap.size w1 w5 := C2.trans (b_w5.mono C2.size)
 refine hK.out _ _ ?_ (fun _ => ?_)
 ·
  exact C3
 clear hK K
 refine tk 19 63 (tx T6) rfl (fun W hSw => by exact exec_add rfl T5 U rfl rfl (by first | omega | (simp only [List.length_cons, List.length_nil]; omega)) T6 HT6.out W) C3 ?_
 simp only [Act.put, pB, pC, pD]
 refine tk 20 64 (tx T7) rfl (fun W hSw => by exact exec_add rfl T6 [41] rfl rfl (by first | omega | (simp only [List.length_cons, List.length_nil]; omega)) T7 HT7.out W) C3 ?_
 simp only [Act.put, pB, pC, pD]
 refine tk 21 2 (tx T7) rfl (fun W hSw => by go_simp) C3 ?_
 simp only [Act.put, pB, pC, pD]
 refine wpAnyH_done (by kernel_rfl) ?_ _
 refine NoPanic.normal ?_
 go_wp2_with fail
 go_ret
 exact ⟨by show Ending.returned (tx T7) = _; rw [HT7.out, HT6.out, HT5.out, HT4.out, HT3.out, HT2.out, HT1.out]; simp, B1.trans (C3.mono B1.size)⟩
end Go.Proofs.YteankdaegdhfiaaGreatDoor
namespace Go.Proofs.YteankdaegdhfiaaGreatDoor
open Go.RowKit
def prK (k : Int) (o : Bool) (v : Int) (s : Str) (m : List Mt) (r : Int) (b1 b2 b3 b4 : Bool) (ns : List Str) (ts : List Str) : Str :=
 if k = 1 then Fx.fPrint (Fx.cnt o v)
 else if k = 2 then selS m r
 else if k = 3 then s ++ [40] ++ ts.getD 0 [] ++ [41]
 else if k = 4 then s ++ [32] ++ gpS b1 b2 b3 b4 ns ++ [40] ++ ts.getD 0 [] ++ [41]
 else if k = 5 then [40] ++ ts.getD 0 [] ++ [32] ++ s ++ [32] ++ gpS b1 b2 b3 b4 ns ++ ts.getD 1 [] ++ [41]
 else [45] ++ ts.getD 0 []
def prG (e : Ex) (ts : List Str) : Str := prK e.k e.o e.v e.s e.m e.r e.b1 e.b2 e.b3 e.b4 e.ns ts
def pr9 (e : Ex) : Str := foldE prG e
theorem pr9_eq (k p : Int) (o : Bool) (v : Int) (s : Str) (m : List Mt) (r : Int) (b1 b2 b3 b4 : Bool) (ns : List Str) (ks : List Ex) : pr9 ⟨k, p, o, v, s, m, r, b1, b2, b3, b4, ns, ks⟩ = prK k o v s m r b1 b2 b3 b4 ns (ks.map pr9) := by
 show foldE prG _ = _
 rw [foldE_eq]
 rfl
theorem two_of {l : List Ex} (h : l.length = 2) : ∃ x y, l = [x, y] := by
 match l, h with
 | [x, y], _ => exact ⟨x, y, rfl⟩
theorem gp_word (b1 b2 b3 b4 : Bool) (ns : List Str) : (Lib.join ns [44, 32]).length ≤ (gpS b1 b2 b3 b4 ns).length ∨ (b1 = false ∧ b2 = false ∧ b3 = false ∧ b4 = false) := by
 unfold gpS
 by_cases h : gw b1 b2 b3 b4 = []
 ·
  right
  revert h
  cases b1 <;> cases b2 <;> cases b3 <;> cases b4 <;> simp [gw]
 ·
  left
  rw [if_neg h]
  simp
  omega
theorem grp_none {p q : Bool} {ns : List Str} (h : fGrp p q ns = true) (hp : p = false) (hq : q = false) : ns = [] := by
 subst hp hq
 simpa [fGrp] using h
theorem grp_len {p q : Bool} {ns : List Str} (h : fGrp p q ns = true) : ns.length ≤ 1000000 := by
 unfold fGrp at h
 by_cases hc : (!p && !q) = true
 ·
  rw [if_pos hc] at h
  have := of_decide_eq_true h
  omega
 ·
  rw [if_neg hc] at h
  simp [fewN] at h
  omega
/-- Its numbers are such as can be. -/
def Vr : Ex → Prop
 | ⟨_, _, _, v, _, _, _, _, _, _, _, _, ks⟩ => (-9223372036854775808 ≤ v ∧ v ≤ 9223372036854775807) ∧ ∀ x, x ∈ ks → Vr x
theorem Vr_eq (e : Ex) : Vr e ↔ (-9223372036854775808 ≤ e.v ∧ e.v ≤ 9223372036854775807) ∧ ∀ x, x ∈ e.ks → Vr x := by
 cases e
 rw [Vr]
theorem sel_len (m : List Mt) (r : Int) : (pMs (ptN m).2).length ≤ (selS m r).length ∨ (ptN m).2 = [] := by
 have h : (pMs (ptN m).2).length ≤ (selT (ptN m).1 (ptN m).2).length ∨ (ptN m).2 = [] := by
  unfold selT
  by_cases h : (ptN m).1 = [] ∨ 0 < (ptN m).2.length
  ·
   left
   rw [if_pos h]
   simp
   omega
  ·
   right
   exact List.length_eq_zero_iff.1 (by
    have : ¬ 0 < (ptN m).2.length := fun q => h (Or.inr q)
    omega)
 rcases h with h | h
 ·
  left
  unfold selS
  split
  ·
   simp only [List.length_append]
   omega
  ·
   exact h
 ·
  exact Or.inr h
def PrtOK (P : Nat → Prop) (e : Ex) : Prop := Sm e → Vr e → sndE e = true → (pr9 e).length ≤ 1000000 → ∀ (w : World) (cs : Array Value), TrP P w e cs → Ev w → Calls Tryz.prog 48 #[.agg cs] w fun x w' => x = .returned (tx (pr9 e)) ∧ Below w.heap.size w w'
set_option maxHeartbeats 4000000 in
theorem prt_ok {P : Nat → Prop} (e : Ex) : PrtOK P e := by
 refine Ex.ind (PrtOK P) ?_ e
 intro e ih hs hv hsnd hlen w cs h he
 obtain ⟨⟨v0, v1⟩, v2⟩ := (Vr_eq e).1 hv
 obtain ⟨s1, s2, s3, s4, s5, s6, s7⟩ := (Sm_eq e).1 hs
 rw [sndE_eq, Bool.and_eq_true, Bool.and_eq_true] at hsnd
 obtain ⟨⟨ha, hk⟩, hall⟩ := hsnd
 obtain ⟨vm, vn, ao, cap, rfl, sm, sn, hcap, hkid⟩ := h.parts
 obtain ⟨am, cm, rfl, _⟩ := id sm
 obtain ⟨an, cn, rfl, _⟩ := id sn
 obtain ⟨k, p, o, v, s, m, r, b1, b2, b3, b4, ns, ks⟩ := e
 unfold kindE at hk
 simp only at *
 rw [pr9_eq] at hlen ⊢
 have kid : ∀ (i : Nat) (x : Ex), ks[i]? = some x → (pr9 x).length ≤ 1000000 → ∃ b off ci, ao = some ⟨b, off, none⟩ ∧ (∀ W, Below w.heap.size w W → Calls Tryz.prog 48 #[.agg ci] W fun e w' => e = .returned (tx (pr9 x)) ∧ Below W.heap.size W w') ∧ w.rangeAt b (off + i * 13) ci.toList ∧ ci.size = 13 := fun i x hx hl => by
  obtain ⟨b, off, ci, e1, kd⟩ := hkid i x hx
  have hm := List.mem_of_getElem? hx
  exact ⟨b, off, ci, e1, fun W hW => ih x hm (s7 x hm) (v2 x hm) (List.all_eq_true.1 hall x hm) hl W ci (TrP.later kd.t hW) (he.later hW), kd.r, kd.t.row.1⟩
 by_cases h1 : k = 1
 ·
  subst k
  exact prt1 p o v s am an _ cm _ cn r b1 b2 b3 b4 ao _ cap w v0 v1 he
 ·
  by_cases h2 : k = 2
  ·
   subst k
   simp [fK] at hk
   obtain ⟨⟨⟨_, m8⟩, mf⟩, hr⟩ := hk
   have hl2 : prK 2 o v s m r b1 b2 b3 b4 ns (ks.map pr9) = selS m r := rfl
   rw [hl2] at hlen ⊢
   have hr2 : 0 ≤ r ∧ r ≤ 100 := by simpa [fRange] using hr
   have hx : ∀ x ∈ m, x.name.length ≤ 100000 ∧ x.text.length ≤ 1000 := fun x hx => by
    have := mf x hx
    simp [fMat, fName] at this
    omega
   have hpl : (pMs (ptN m).2).length ≤ 1000000 := by
    rcases sel_len m r with q | q
    ·
     omega
    ·
     rw [q]; simp [pMs, Lib.join]
   exact prt2 p o v s am an _ cm _ cn r b1 b2 b3 b4 ao _ cap (selS m r) w (fun W hW => sel9_any 2 p o v s am an ao _ cm _ cn _ cap r b1 b2 b3 b4 m W (SlP.later sm hW) hx (by omega) hpl hr2.1 hr2.2 (he.later hW))
  ·
   by_cases h3 : k = 3
   ·
    subst k
    simp [fK] at hk
    obtain ⟨x, rfl⟩ := List.length_eq_one_iff.1 hk.1
    have hl3 : prK 3 o v s m r b1 b2 b3 b4 ns ([x].map pr9) = s ++ [40] ++ pr9 x ++ [41] := rfl
    rw [hl3] at hlen ⊢
    simp only [List.length_append, List.length_cons, List.length_nil] at hlen
    obtain ⟨b, off, ci, rfl, q1, q2, q3⟩ := kid 0 x rfl (by omega)
    exact prt3 p o v s am an _ cm _ cn r b1 b2 b3 b4 b off cap ci (pr9 x) w q1 (by simpa using q2) q3 (by omega)
   ·
    by_cases h4 : k = 4
    ·
     subst k
     simp [fK] at hk
     obtain ⟨x, rfl⟩ := List.length_eq_one_iff.1 hk.1.1
     have hl4 : prK 4 o v s m r b1 b2 b3 b4 ns ([x].map pr9) = s ++ [32] ++ gpS b1 b2 b3 b4 ns ++ [40] ++ pr9 x ++ [41] := rfl
     rw [hl4] at hlen ⊢
     simp only [List.length_append, List.length_cons, List.length_nil] at hlen
     obtain ⟨b, off, ci, rfl, q1, q2, q3⟩ := kid 0 x rfl (by omega)
     have hj : (Lib.join ns [44, 32]).length ≤ 1000000 := by
      rcases gp_word b1 b2 b3 b4 ns with e | ⟨e1, e2, _, _⟩
      ·
       omega
      ·
       rw [grp_none hk.2 e1 e2]; simp [Lib.join]
     exact prt4 p o v s am an _ cm _ cn r b1 b2 b3 b4 b off cap ci (pr9 x) (gpS b1 b2 b3 b4 ns) w q1 (by simpa using q2) q3 (fun W hW => grp9_any 4 p o v s am an _ _ cm _ cn _ _ r b1 b2 b3 b4 ns W (SlP.later sn hW) (grp_len hk.2) hj) (by omega)
    ·
     by_cases h5 : k = 5
     ·
      subst k
      simp [fK] at hk
      obtain ⟨x, y, rfl⟩ := two_of hk.1.1
      have hl5 : prK 5 o v s m r b1 b2 b3 b4 ns ([x, y].map pr9) = [40] ++ pr9 x ++ [32] ++ s ++ [32] ++ gpS b1 b2 b3 b4 ns ++ pr9 y ++ [41] := rfl
      rw [hl5] at hlen ⊢
      simp only [List.length_append, List.length_cons, List.length_nil] at hlen
      obtain ⟨b, off, ci, rfl, q1, q2, q3⟩ := kid 0 x rfl (by omega)
      obtain ⟨b', off', cj, e', r1, r2, r3⟩ := kid 1 y rfl (by omega)
      injection e' with e'
      injection e' with e1 e2
      subst e1 e2
      have hgn := hk.2
      have hj : (Lib.join ns [44, 32]).length ≤ 1000000 := by
       rcases gp_word b1 b2 b3 b4 ns with e | ⟨_, _, e1, e2⟩
       ·
        omega
       ·
        rw [grp_none hgn e1 e2]; simp [Lib.join]
      exact prt5 p o v s am an _ cm _ cn r b1 b2 b3 b4 b off cap ci cj (pr9 x) (pr9 y) (gpS b1 b2 b3 b4 ns) w q1 (by simpa using q2) q3 r1 (by simpa using r2) r3 (fun W hW => grp9_any 5 p o v s am an _ _ cm _ cn _ _ r b1 b2 b3 b4 ns W (SlP.later sn hW) (grp_len hgn) hj) (by omega)
     ·
      by_cases h6 : k = 6
      ·
       subst k
       simp [fK] at hk
       obtain ⟨x, rfl⟩ := List.length_eq_one_iff.1 hk
       have hl6 : prK 6 o v s m r b1 b2 b3 b4 ns ([x].map pr9) = [45] ++ pr9 x := rfl
       rw [hl6] at hlen ⊢
       simp only [List.length_append, List.length_cons, List.length_nil] at hlen
       obtain ⟨b, off, ci, rfl, q1, q2, q3⟩ := kid 0 x rfl (by omega)
       exact prt6 p o v s am an _ cm _ cn r b1 b2 b3 b4 b off cap ci (pr9 x) w q1 (by simpa using q2) q3 (by omega)
      ·
       simp [fK, h1, h2, h3, h4, h5, h6] at hk
def prE (e : Ex) : Str := if isE e then pr9 e else []
set_option maxHeartbeats 4000000 in
theorem print9_any {P : Nat → Prop} {w : World} {e : Ex} {cs : Array Value} (h : TrP P w e cs) (hs : Sm e) (hv : Vr e) (hl : (pr9 e).length ≤ 1000000) (he : Ev w) : Calls Tryz.prog 21 #[.agg cs] w fun x w' => x = .returned (tx (prE e)) ∧ Below w.heap.size w w' := by
 have hI := fun W (hW : Below w.heap.size w W) => isE_any (TrP.later h hW) hs
 have hP := fun (hq : sndE e = true) W (hW : Below w.heap.size w W) => prt_ok (P := P) e hs hv hq hl W cs (TrP.later h hW) (he.later hW)
 have HD : Hid (isE e = (decide (sz e ≤ 700) && sndE e)) := rfl
 have HP : Hid (prE e = if isE e then pr9 e else []) := rfl
 obtain ⟨vm, vn, ao, cap, rfl, sm, sn, _, _⟩ := h.parts
 obtain ⟨am, cm, rfl, _⟩ := sm
 obtain ⟨an, cn, rfl, _⟩ := sn
 clear h hs hv hl he
 have qa := heap_new w (.cells (exA e.k e.p e.o e.v e.s (.slice am e.m.length cm) e.r e.b1 e.b2 e.b3 e.b4 (.slice an e.ns.length cn) (.slice ao e.ks.length cap)) 29)
 have B1 := bal (Below.refl w.heap.size w) (.cells (exA e.k e.p e.o e.v e.s (.slice am e.m.length cm) e.r e.b1 e.b2 e.b3 e.b4 (.slice an e.ns.length cn) (.slice ao e.ks.length cap)) 29)
 go_enter Tryz.func21, Tryz.ntmps21
 go_upto_region 1 with fail
 generalize w.alloc (.cells (exA e.k e.p e.o e.v e.s (.slice am e.m.length cm) e.r e.b1 e.b2 e.b3 e.b4 (.slice an e.ns.length cn) (.slice ao e.ks.length cap)) 29) = w1 at *
 cases hq : isE e with
 | false =>
  have HR : Hid (prE e = []) := by show _ = _; rw [HP.out, hq]; rfl
  simp only [hq] at hI
  clear HP HD hP hq
  go_wp2_with (refine wp_get rfl 29 _ rfl w.heap.size (exA e.k e.p e.o e.v e.s (.slice am e.m.length cm) e.r e.b1 e.b2 e.b3 e.b4 (.slice an e.ns.length cn) (.slice ao e.ks.length cap)) 29 rfl qa _ Tryz.underlying29 rfl 13 inf29 rfl ?_)
  refine (hI _ B1).mono ?_
  rintro x w2 ⟨rfl, b2⟩
  have B2 := B1.trans (b2.mono B1.size)
  go_wp2_with fail
  go_ret
  exact ⟨by rw [HR.out]; rfl, B2⟩
 | true =>
  have HR : Hid (prE e = pr9 e) := by show _ = _; rw [HP.out, hq]; rfl
  have hsn : sndE e = true := by
   have e1 := HD.out
   rw [hq] at e1
   exact (Bool.and_eq_true _ _ ▸ e1.symm).2
  have hP2 := hP hsn
  simp only [hq] at hI
  clear HP HD hP hq hsn
  go_wp2_with (refine wp_get rfl 29 _ rfl w.heap.size (exA e.k e.p e.o e.v e.s (.slice am e.m.length cm) e.r e.b1 e.b2 e.b3 e.b4 (.slice an e.ns.length cn) (.slice ao e.ks.length cap)) 29 rfl qa _ Tryz.underlying29 rfl 13 inf29 rfl ?_)
  refine (hI _ B1).mono ?_
  rintro x w2 ⟨rfl, b2⟩
  have B2 := B1.trans (b2.mono B1.size)
  have qb := below_heap b2 qa
  go_wp2_with (refine wp_get (w := w2) rfl 29 _ rfl w.heap.size (exA e.k e.p e.o e.v e.s (.slice am e.m.length cm) e.r e.b1 e.b2 e.b3 e.b4 (.slice an e.ns.length cn) (.slice ao e.ks.length cap)) 29 rfl qb _ Tryz.underlying29 rfl 13 inf29 rfl ?_)
  refine (hP2 _ B2).mono ?_
  rintro x w3 ⟨rfl, b3⟩
  have B3 := B2.trans (b3.mono B2.size)
  go_wp2_with fail
  go_ret
  exact ⟨by rw [HR.out]; rfl, B3⟩
end Go.Proofs.YteankdaegdhfiaaGreatDoor
namespace Go.Proofs.YteankdaegdhfiaaGreatDoor
open Go.RowKit
def metH (k : Int) (m : List Mt) : List Str := if k = 2 ∧ (ptN m).1 ≠ [] then [(ptN m).1] else []
def metG (e : Ex) (l : List (List Str)) : List Str := metH e.k e.m ++ l.flatten
def metE (e : Ex) : List Str := foldE metG e
def metL : List Ex → List Str
 | [] => []
 | x :: l => metE x ++ metL l
theorem metL_flat : ∀ l, metL l = (l.map metE).flatten
 | [] => rfl
 | x :: l => by rw [metL, metL_flat l]; rfl
theorem metE_eq (e : Ex) : metE e = metH e.k e.m ++ metL e.ks := by
 show foldE metG e = _
 rw [foldE_eq, metL_flat]
 rfl
theorem metL_append : ∀ (l m : List Ex), metL (l ++ m) = metL l ++ metL m
 | [], m => by simp [metL]
 | x :: l, m => by rw [List.cons_append, metL, metL, metL_append l m, List.append_assoc]
theorem metL_step (l : List Ex) (k : Nat) (x : Ex) (h : l[k]? = some x) : metL (l.take (k + 1)) = metL (l.take k) ++ metE x := by
 obtain ⟨hk, rfl⟩ := List.getElem?_eq_some_iff.1 h
 rw [List.take_succ_eq_append_getElem hk, metL_append]
 simp [metL]
theorem metL_le (l : List Ex) (k : Nat) (x : Ex) (h : l[k]? = some x) : (metL (l.take k)).length + (metE x).length ≤ (metL l).length := by
 have e := metL_append (l.take (k + 1)) (l.drop (k + 1))
 rw [List.take_append_drop, metL_step l k x h] at e
 rw [e]
 simp
theorem SlP.under {P : Nat → Prop} {w w' : World} {base n : Nat} {v : Value} {cs : List Value} (h : SlP P w v n cs) (hb : Below base w w') (hP : ∀ b, P b → b < base) : SlP P w' v n cs := by
 obtain ⟨ao, cap, e, hc, h4⟩ := h
 refine ⟨ao, cap, e, hc, fun hp => ?_⟩
 obtain ⟨b, off, e1, hl, hcs⟩ := h4 hp
 refine ⟨b, off, e1, hl, fun j hj => ?_⟩
 rw [Below.cell hb (p := ⟨b, off + j, none⟩) (hP b hl)]
 exact hcs j hj
theorem TrP.under {P : Nat → Prop} {w w' : World} {base : Nat} (hb : Below base w w') (hP : ∀ b, P b → b < base) (e : Ex) {cs : Array Value} (h : TrP P w e cs) : TrP P w' e cs := by
 revert cs
 refine Ex.ind (fun e => ∀ {cs : Array Value}, TrP P w e cs → TrP P w' e cs) ?_ e
 intro e ih cs h
 obtain ⟨vm, vn, vk, kss, h1, h2, h3, h4, h5, h6⟩ := (Tr_eq _ _ _ _).mp h
 exact (Tr_eq _ _ _ _).mpr ⟨vm, vn, vk, kss, h1, h2.under hb hP, h3.under hb hP, h4.under hb hP, h5, fun i x hx hi => ih x hx (h6 i x hx hi)⟩
theorem Kid.under {P : Nat → Prop} {w w' : World} {base b off i : Nat} {x : Ex} {ci : Array Value} (h : Kid P w b off i x ci) (hb : Below base w w') (hP : ∀ b, P b → b < base) : Kid P w' b off i x ci :=
 ⟨TrP.under hb hP x h.t, fun j v hv => by rw [Below.cell hb (p := ⟨b, off + i * 13 + j, none⟩) (hP b h.p)]; exact h.r j v hv, Nat.lt_of_lt_of_le h.lt hb.size, h.p⟩
def MetOK (P : Nat → Prop) (e : Ex) : Prop := Sm e → ∀ (w : World) (base : Nat) (v : Value) (acc : List Str) (cs : Array Value), (∀ b, P b → b < base) → base ≤ w.heap.size → OwnS w base v acc → acc.length + (metE e).length ≤ 100000 → TrP P w e cs → Calls Tryz.prog 52 #[v, .agg cs] w fun x w' => ∃ v', x = .returned v' ∧ OwnS w' base v' (acc ++ metE e) ∧ Below base w w'
set_option maxHeartbeats 8000000 in
theorem met_ok {P : Nat → Prop} (e : Ex) : MetOK P e := by
 refine Ex.ind (MetOK P) ?_ e
 intro e ih hs w base v acc cs hP hbase hown hlen h
 obtain ⟨i0, hi, hz0, hz1, hz2⟩ := info_parts9
 obtain ⟨_, s2, _, s4, _, s6, s7⟩ := (Sm_eq e).1 hs
 obtain ⟨vm, vn, ao, cap, rfl, sm, sn, hcap, hkid⟩ := h.parts
 obtain ⟨am, cm, rfl, _⟩ := id sm
 obtain ⟨an, cn, rfl, _⟩ := sn
 have hp := fun W (hW : Below w.heap.size w W) => parted_any (SlP.later sm hW) (fun x hx => (s2 x hx).2) s4
 have HK : Hid _ := hkid
 have HI : Hid _ := ih
 have HM : Hid _ := s7
 have HP : Hid (∀ b, P b → b < base) := hP
 rw [metE_eq] at hlen
 have HE0 : Hid (metE e = metH e.k e.m ++ metL e.ks) := metE_eq e
 have HLen0 : Hid (acc.length + (metH e.k e.m ++ metL e.ks).length ≤ 100000) := hlen
 have HH : Hid (metH e.k e.m = if e.k = 2 ∧ (ptN e.m).1 ≠ [] then [(ptN e.m).1] else []) := rfl
 clear hkid ih h s2 s4 s7 hs sm hP hlen
 generalize hn : e.ks.length = n at *
 have HN : Hid (e.ks.length = n) := hn
 clear hn
 have qa := heap_new w (.cells (exA e.k e.p e.o e.v e.s (.slice am e.m.length cm) e.r e.b1 e.b2 e.b3 e.b4 (.slice an e.ns.length cn) (.slice ao n cap)) 29)
 have B1 := bal (Below.refl w.heap.size w) (.cells (exA e.k e.p e.o e.v e.s (.slice am e.m.length cm) e.r e.b1 e.b2 e.b3 e.b4 (.slice an e.ns.length cn) (.slice ao n cap)) 29)
 have ho1 := hown.later (bal (Below.refl w.heap.size w) (.cells (exA e.k e.p e.o e.v e.s (.slice am e.m.length cm) e.r e.b1 e.b2 e.b3 e.b4 (.slice an e.ns.length cn) (.slice ao n cap)) 29))
 have hx9 : some w.heap.size ≠ v.ownBlock := fun e => by have := (World.ownsRow.lt hown _ e.symm).2; omega
 clear hown
 generalize (ptN e.m).1 = t at *
 generalize (ptN e.m).2 = os at *
 by_cases h2 : e.k = 2
 ·
  have t2 : (e.k == 2) = true := beq_iff_eq.2 h2
  have H2 : Hid (e.k = 2) := h2
  clear h2
  go_enter Tryz.func52, Tryz.ntmps52
  go_upto_region 1 with fail
  generalize w.alloc (.cells (exA e.k e.p e.o e.v e.s (.slice am e.m.length cm) e.r e.b1 e.b2 e.b3 e.b4 (.slice an e.ns.length cn) (.slice ao n cap)) 29) = w1 at *
  have x0 := (cell_at qa 0).trans rfl
  have x5 := (cell_at qa 5).trans rfl
  go_wp2_with fail
  refine (hp _ B1).mono ?_
  rintro x w2 ⟨a, n', c, rfl, _, b2⟩
  have B2 := B1.trans (b2.mono B1.size)
  have q2 := below_heap b2 qa
  have ho2 := ho1.later b2
  clear x0 x5 qa ho1 hp
  by_cases ht : t = []
  ·
   subst ht
   have HE : Hid (acc ++ metE e = acc ++ metL e.ks) := by show _ = _; rw [HE0.out, HH.out, if_neg (fun q => q.2 rfl)]; simp
   have HLen : Hid (acc.length + (metL e.ks).length ≤ 100000) := by have := HLen0.out; simp only [List.length_append] at this; show _ ≤ _; omega
   have B3 : Below base w w2 := B2.mono hbase
   clear HE0 HLen0 HH
   have x12 := (cell_at q2 12).trans rfl
   have zB := B3.size
   go_wp2_with fail
   go_loopw [0, 27] (fun u i wr => ∃ (j : Nat), j ≤ n ∧ i = .int .i64 j ∧ OwnS wr base u (acc ++ metL (e.ks.take j)) ∧ Below base w wr) (fun _ i _ => n - (intOf i).toNat)
   case atStart => exact ⟨0, by omega, rfl, by simpa [metL] using ho2, B3⟩
   case round =>
    clear x12 ho2 q2
    rename_i _ _ u _
    obtain ⟨j, hj, rfl, ho, B⟩ := hrel
    by_cases hlt : j < n
    ·
     have hlt' : (j : Int) < n := by omega
     obtain ⟨x, hx⟩ : ∃ x, e.ks[j]? = some x := ⟨_, List.getElem?_eq_getElem (by have := HN.out; omega)⟩
     obtain ⟨b, off, ci, ea, kd⟩ := HK.out j x hx
     have kd1 := kd.under B HP.out
     have row := kd1.t.row
     subst ea
     have HX : Hid (metL (e.ks.take (j + 1)) = metL (e.ks.take j) ++ metE x) := metL_step _ _ _ hx
     have HLe : Hid (((metL (e.ks.take j)).length + (metE x).length ≤ (metL e.ks).length)) := metL_le _ _ _ hx
     have his := fun W v (h1 : base ≤ W.heap.size) h2 h3 h4 => HI.out x (List.mem_of_getElem? hx) (HM.out x (List.mem_of_getElem? hx)) W base v (acc ++ metL (e.ks.take j)) ci HP.out h1 h2 h3 h4
     have Ba := bal (Below.refl wr.heap.size wr) (.cells zE 29)
     have q0 := heap_new wr (.cells zE 29)
     have zb := B.size
     clear hx kd
     go_wp2_with (first | (refine wp_getm rfl _ rfl b (off + j * 13) ci rfl kd1.r row.1 ?_) | (refine wp_put rfl 29 _ _ rfl wr.heap.size ci rfl rfl _ 29 q0 13 inf29 rfl row ?_; intro w5 q5 o5 z5; clear z5; have D5 := ((Off.of Ba []).trans o5 (by simp)).below (by simp)) | (refine wp_get rfl 29 _ rfl wr.heap.size ci 29 rfl q5 _ Tryz.underlying29 rfl 13 inf29 row.1 ?_))
     have zd := D5.size
     refine (his _ _ (by omega) (ho.later D5) (by have := HLe.out; have := HLen.out; simp only [List.length_append] at *; omega) (TrP.later kd1.t D5)).mono ?_
     rintro x' w6 ⟨v6, rfl, ho6, b6⟩
     have B6 := B.trans ((D5.mono (by omega)).trans b6)
     go_wp2_with fail
     go_roundw
     case rel => exact ⟨j + 1, by omega, by go_num, by rw [HX.out, ← List.append_assoc]; exact ho6, B6⟩
     case measure => simp [intOf]; omega
    ·
     have hlt' : ¬ (j : Int) < n := by omega
     have HR : Hid (acc ++ metL (e.ks.take j) = acc ++ metE e) := by
      show _ = _
      rw [List.take_of_length_le (by have := HN.out; omega)]
      exact HE.out.symm
     clear HK HI HM
     go_wp2_with fail
     go_ret
     exact ⟨_, rfl, by rw [← HR.out]; exact ho, B⟩
  ·
   have t3 : (t == []) = false := beq_eq_false_iff_ne.2 ht
   have t4 : (t != []) = true := by rw [bne_iff_ne]; exact ht
   have HE : Hid (acc ++ metE e = acc ++ [t] ++ metL e.ks) := by show _ = _; rw [HE0.out, HH.out, if_pos ⟨H2.out, ht⟩]; simp
   have HLen : Hid (acc.length + 1 + (metL e.ks).length ≤ 100000) := by
    have := HLen0.out
    rw [HH.out, if_pos ⟨H2.out, ht⟩] at this
    simp only [List.length_append, List.length_cons, List.length_nil] at this
    show _ ≤ _
    omega
   have hal : acc.length ≤ 100000 := by have := HLen.out; omega
   clear HE0 HLen0 HH ht
   have ho3 := ho2.later (bal (Below.refl w2.heap.size w2) (.cells #[tx t] 9))
   have B3 := bal B2 (.cells #[tx t] 9)
   have q3 := below_heap (bal (Below.refl w2.heap.size w2) (.cells #[tx t] 9)) q2
   have z3 := B3.size
   go_wp2_with (at_builtin; go_must (refine wpList_append_own _ rfl _ _ 26 rfl base 9 i0 (tx []) 1 16 Tryz.underlying26 hi hz0 hz1 hz2 rfl (by decide) _ _ _ rfl ho3 ⟨w2.heap.size, 0, none⟩ 1 1 [tx t] rfl rfl (one_cell (World.cell?_alloc_new w2 _ _ 0)) (fun u hu => by cases hu with | head => rfl | tail _ h => cases h) ?h63 ?hby ?hbs ?_))
   case h63 => unfold maxLen; omega
   case hby => omega
   case hbs => omega
   intro v4 w4 ho4 hg4 _
   have B4 : Below base w w4 := (B3.mono hbase).grown hg4 (by omega) (fun k hk => (World.ownsRow.lt ho3 k hk).1)
   have q4 := grown_heap hg4 q3 hx9
   have ho5 := OwnS.snoc ho4
   clear ho2 ho3 ho4 hg4 q2 q3 B3
   have x12 := (cell_at q4 12).trans rfl
   have zB := B4.size
   go_wp2_with fail
   go_loopw [0, 27] (fun u i wr => ∃ (j : Nat), j ≤ n ∧ i = .int .i64 j ∧ OwnS wr base u ((acc ++ [t]) ++ metL (e.ks.take j)) ∧ Below base w wr) (fun _ i _ => n - (intOf i).toNat)
   case atStart => exact ⟨0, by omega, rfl, by simpa [metL] using ho5, B4⟩
   case round =>
    clear x12 ho5 q4
    rename_i _ _ u _
    obtain ⟨j, hj, rfl, ho, B⟩ := hrel
    by_cases hlt : j < n
    ·
     have hlt' : (j : Int) < n := by omega
     obtain ⟨x, hx⟩ : ∃ x, e.ks[j]? = some x := ⟨_, List.getElem?_eq_getElem (by have := HN.out; omega)⟩
     obtain ⟨b, off, ci, ea, kd⟩ := HK.out j x hx
     have kd1 := kd.under B HP.out
     have row := kd1.t.row
     subst ea
     have HX : Hid (metL (e.ks.take (j + 1)) = metL (e.ks.take j) ++ metE x) := metL_step _ _ _ hx
     have HLe : Hid (((metL (e.ks.take j)).length + (metE x).length ≤ (metL e.ks).length)) := metL_le _ _ _ hx
     have his := fun W v (h1 : base ≤ W.heap.size) h2 h3 h4 => HI.out x (List.mem_of_getElem? hx) (HM.out x (List.mem_of_getElem? hx)) W base v ((acc ++ [t]) ++ metL (e.ks.take j)) ci HP.out h1 h2 h3 h4
     have Ba := bal (Below.refl wr.heap.size wr) (.cells zE 29)
     have q0 := heap_new wr (.cells zE 29)
     have zb := B.size
     clear hx kd
     go_wp2_with (first | (refine wp_getm rfl _ rfl b (off + j * 13) ci rfl kd1.r row.1 ?_) | (refine wp_put rfl 29 _ _ rfl wr.heap.size ci rfl rfl _ 29 q0 13 inf29 rfl row ?_; intro w5 q5 o5 z5; clear z5; have D5 := ((Off.of Ba []).trans o5 (by simp)).below (by simp)) | (refine wp_get rfl 29 _ rfl wr.heap.size ci 29 rfl q5 _ Tryz.underlying29 rfl 13 inf29 row.1 ?_))
     have zd := D5.size
     refine (his _ _ (by omega) (ho.later D5) (by have := HLe.out; have := HLen.out; simp only [List.length_append, List.length_cons, List.length_nil] at *; omega) (TrP.later kd1.t D5)).mono ?_
     rintro x' w6 ⟨v6, rfl, ho6, b6⟩
     have B6 := B.trans ((D5.mono (by omega)).trans b6)
     go_wp2_with fail
     go_roundw
     case rel => exact ⟨j + 1, by omega, by go_num, by rw [HX.out, ← List.append_assoc]; exact ho6, B6⟩
     case measure => simp [intOf]; omega
    ·
     have hlt' : ¬ (j : Int) < n := by omega
     have HR : Hid ((acc ++ [t]) ++ metL (e.ks.take j) = acc ++ metE e) := by
      show _ = _
      rw [List.take_of_length_le (by have := HN.out; omega)]
      exact HE.out.symm
     clear HK HI HM
     go_wp2_with fail
     go_ret
     exact ⟨_, rfl, by rw [← HR.out]; exact ho, B⟩
 ·
  have t2 : (e.k == 2) = false := beq_eq_false_iff_ne.2 h2
  have HE : Hid (acc ++ metE e = acc ++ metL e.ks) := by show _ = _; rw [HE0.out, HH.out, if_neg (fun q => h2 q.1)]; simp
  have HLen : Hid (acc.length + (metL e.ks).length ≤ 100000) := by have := HLen0.out; simp only [List.length_append] at this; show _ ≤ _; omega
  have B3 : Below base w (w.alloc (.cells (exA e.k e.p e.o e.v e.s (.slice am e.m.length cm) e.r e.b1 e.b2 e.b3 e.b4 (.slice an e.ns.length cn) (.slice ao n cap)) 29)) := B1.mono hbase
  clear HE0 HLen0 HH hp h2
  go_enter Tryz.func52, Tryz.ntmps52
  go_upto_region 1 with fail
  generalize w.alloc (.cells (exA e.k e.p e.o e.v e.s (.slice am e.m.length cm) e.r e.b1 e.b2 e.b3 e.b4 (.slice an e.ns.length cn) (.slice ao n cap)) 29) = w1 at *
  have x0 := (cell_at qa 0).trans rfl
  have x12 := (cell_at qa 12).trans rfl
  have zB := B3.size
  go_wp2_with fail
  go_loopw [0, 27] (fun u i wr => ∃ (j : Nat), j ≤ n ∧ i = .int .i64 j ∧ OwnS wr base u (acc ++ metL (e.ks.take j)) ∧ Below base w wr) (fun _ i _ => n - (intOf i).toNat)
  case atStart => exact ⟨0, by omega, rfl, by simpa [metL] using ho1, B3⟩
  case round =>
   clear x12 x0 ho1 qa
   rename_i _ _ u _
   obtain ⟨j, hj, rfl, ho, B⟩ := hrel
   by_cases hlt : j < n
   ·
    have hlt' : (j : Int) < n := by omega
    obtain ⟨x, hx⟩ : ∃ x, e.ks[j]? = some x := ⟨_, List.getElem?_eq_getElem (by have := HN.out; omega)⟩
    obtain ⟨b, off, ci, ea, kd⟩ := HK.out j x hx
    have kd1 := kd.under B HP.out
    have row := kd1.t.row
    subst ea
    have HX : Hid (metL (e.ks.take (j + 1)) = metL (e.ks.take j) ++ metE x) := metL_step _ _ _ hx
    have HLe : Hid (((metL (e.ks.take j)).length + (metE x).length ≤ (metL e.ks).length)) := metL_le _ _ _ hx
    have his := fun W v (h1 : base ≤ W.heap.size) h2 h3 h4 => HI.out x (List.mem_of_getElem? hx) (HM.out x (List.mem_of_getElem? hx)) W base v (acc ++ metL (e.ks.take j)) ci HP.out h1 h2 h3 h4
    have Ba := bal (Below.refl wr.heap.size wr) (.cells zE 29)
    have q0 := heap_new wr (.cells zE 29)
    have zb := B.size
    clear hx kd
    go_wp2_with (first | (refine wp_getm rfl _ rfl b (off + j * 13) ci rfl kd1.r row.1 ?_) | (refine wp_put rfl 29 _ _ rfl wr.heap.size ci rfl rfl _ 29 q0 13 inf29 rfl row ?_; intro w5 q5 o5 z5; clear z5; have D5 := ((Off.of Ba []).trans o5 (by simp)).below (by simp)) | (refine wp_get rfl 29 _ rfl wr.heap.size ci 29 rfl q5 _ Tryz.underlying29 rfl 13 inf29 row.1 ?_))
    have zd := D5.size
    refine (his _ _ (by omega) (ho.later D5) (by have := HLe.out; have := HLen.out; simp only [List.length_append] at *; omega) (TrP.later kd1.t D5)).mono ?_
    rintro x' w6 ⟨v6, rfl, ho6, b6⟩
    have B6 := B.trans ((D5.mono (by omega)).trans b6)
    go_wp2_with fail
    go_roundw
    case rel => exact ⟨j + 1, by omega, by go_num, by rw [HX.out, ← List.append_assoc]; exact ho6, B6⟩
    case measure => simp [intOf]; omega
   ·
    have hlt' : ¬ (j : Int) < n := by omega
    have HR : Hid (acc ++ metL (e.ks.take j) = acc ++ metE e) := by
     show _ = _
     rw [List.take_of_length_le (by have := HN.out; omega)]
     exact HE.out.symm
    clear HK HI HM
    go_wp2_with fail
    go_ret
    exact ⟨_, rfl, by rw [← HR.out]; exact ho, B⟩
end Go.Proofs.YteankdaegdhfiaaGreatDoor
/-
  DERIVED: THE SHELF's CONTRACTS AT THIS DUMP, IN PLAIN WORDS (tools/lay-plain.mjs out of 'TryzShelfS.lean', which tools/lay-shelf.mjs wrote): THE SAME DECLARATIONS UNDER THE SAME NAMES: 'import', 'namespace', 'open', 'def', 'theorem' AND NOTHING ELSE: no command of the shelf's: FOR A HAND-IN. Each laying: the table of numbers ('.._ren') and one theorem, a field a fact of the dump's own or the kernel's comparison; each contract: ONE APPLICATION.
-/
namespace Go.Proofs
open Go.Shelf
def Tryz.laysM6_ren : Go.Shelf.Ren := ⟨fun | 6 => 53 | 8 => 84 | 9 => 83 | 19 => 151 | 20 => 152 | 21 => 142 | 22 => 143 | 23 => 144 | 24 => 145 | 25 => 146 | 26 => 147 | 27 => 148 | 28 => 149 | 29 => 150 | 36 => 194 | 31 => 195 | 32 => 196 | 37 => 197 | 38 => 198 | 39 => 199 | 41 => 230 | n => n, fun | 27 => 26 | 29 => 9 | 3 => 3 | 32 => 120 | 26 => 26 | 0 => 0 | 44 => 180 | 46 => 162 | 4 => 4 | 36 => 172 | 35 => 171 | 41 => 177 | 5 => 5 | 9 => 9 | 53 => 216 | 57 => 220 | 63 => 244 | 64 => 55 | n => n, fun | n => n⟩
theorem Tryz.laysM6 : Go.Proofs.SlLaysM.n6 Tryz.prog Tryz.laysM6_ren := {
 mixed := by kernel_rfl
 f6 := ⟨Tryz.f53.name, by decide, Tryz.func53.trans (congrArg some (by kernel_rfl))⟩
 f8 := Tryz.func84.trans (congrArg some (by kernel_rfl))
 f9 := ⟨Tryz.f83.name, by decide, Tryz.func83.trans (congrArg some (by kernel_rfl))⟩
 f19 := Tryz.func151.trans (congrArg some (by kernel_rfl))
 f20 := Tryz.func152.trans (congrArg some (by kernel_rfl))
 f21 := ⟨Tryz.f142.name, by decide, Tryz.func142.trans (congrArg some (by kernel_rfl))⟩
 f22 := ⟨Tryz.f143.name, by decide, Tryz.func143.trans (congrArg some (by kernel_rfl))⟩
 f23 := ⟨Tryz.f144.name, by decide, Tryz.func144.trans (congrArg some (by kernel_rfl))⟩
 f24 := ⟨Tryz.f145.name, by decide, Tryz.func145.trans (congrArg some (by kernel_rfl))⟩
 f25 := ⟨Tryz.f146.name, by decide, Tryz.func146.trans (congrArg some (by kernel_rfl))⟩
 f26 := ⟨Tryz.f147.name, by decide, Tryz.func147.trans (congrArg some (by kernel_rfl))⟩
 f27 := ⟨Tryz.f148.name, by decide, Tryz.func148.trans (congrArg some (by kernel_rfl))⟩
 f28 := ⟨Tryz.f149.name, by decide, Tryz.func149.trans (congrArg some (by kernel_rfl))⟩
 f29 := ⟨Tryz.f150.name, by decide, Tryz.func150.trans (congrArg some (by kernel_rfl))⟩
 f31 := Tryz.func195.trans (congrArg some (by kernel_rfl))
 f32 := Tryz.func196.trans (congrArg some (by kernel_rfl))
 f36 := ⟨Tryz.f194.name, by decide, Tryz.func194.trans (congrArg some (by kernel_rfl))⟩
 f37 := ⟨Tryz.f197.name, by decide, Tryz.func197.trans (congrArg some (by kernel_rfl))⟩
 f38 := ⟨Tryz.f198.name, by decide, Tryz.func198.trans (congrArg some (by kernel_rfl))⟩
 f39 := ⟨Tryz.f199.name, by decide, Tryz.func199.trans (congrArg some (by kernel_rfl))⟩
 f41 := ⟨Tryz.f230.name, by decide, Tryz.func230.trans (congrArg some (by kernel_rfl))⟩
 t0 := Tryz.underlying0
 a0 := Tryz.isAgg0
 z0 := Tryz.sizeOf0
 v0 := Tryz.zeroValue0
 t3 := Tryz.underlying3
 a3 := Tryz.isAgg3
 z3 := Tryz.sizeOf3
 v3 := Tryz.zeroValue3
 t4 := Tryz.underlying4
 a4 := Tryz.isAgg4
 z4 := Tryz.sizeOf4
 v4 := Tryz.zeroValue4
 t5 := Tryz.underlying5
 a5 := Tryz.isAgg5
 z5 := Tryz.sizeOf5
 v5 := Tryz.zeroValue5
 t9 := Tryz.underlying9
 a9 := Tryz.isAgg9
 z9 := Tryz.sizeOf9
 v9 := Tryz.zeroValue9
 t26 := Tryz.underlying26
 a26 := Tryz.isAgg26
 z26 := Tryz.sizeOf26
 v26 := Tryz.zeroValue26
 t27 := Tryz.underlying26
 a27 := Tryz.isAgg26
 z27 := Tryz.sizeOf26
 v27 := Tryz.zeroValue26
 t29 := Tryz.underlying9
 a29 := Tryz.isAgg9
 z29 := Tryz.sizeOf9
 v29 := Tryz.zeroValue9
 t32 := Tryz.underlying120
 a32 := Tryz.isAgg120
 z32 := Tryz.sizeOf120
 v32 := Tryz.zeroValue120
 t35 := Tryz.underlying171
 a35 := Tryz.isAgg171
 z35 := Tryz.sizeOf171
 v35 := Tryz.zeroValue171
 t36 := Tryz.underlying172
 a36 := Tryz.isAgg172
 z36 := Tryz.sizeOf172
 v36 := Tryz.zeroValue172
 t41 := Tryz.underlying177
 a41 := Tryz.isAgg177
 z41 := Tryz.sizeOf177
 v41 := Tryz.zeroValue177
 t44 := Tryz.underlying180
 a44 := Tryz.isAgg180
 z44 := Tryz.sizeOf180
 v44 := Tryz.zeroValue180
 t46 := Tryz.underlying162
 a46 := Tryz.isAgg162
 z46 := Tryz.sizeOf162
 v46 := Tryz.zeroValue162
 t53 := Tryz.underlying216
 a53 := Tryz.isAgg216
 z53 := Tryz.sizeOf216
 v53 := Tryz.zeroValue216
 t57 := Tryz.underlying220
 a57 := Tryz.isAgg220
 z57 := Tryz.sizeOf220
 v57 := Tryz.zeroValue220
 t63 := Tryz.underlying244
 a63 := Tryz.isAgg244
 z63 := Tryz.sizeOf244
 v63 := Tryz.zeroValue244
 t64 := Tryz.underlying55
 a64 := Tryz.isAgg55
 z64 := Tryz.sizeOf55
 v64 := Tryz.zeroValue55 }
def Tryz.lays194_ren : Go.Shelf.Ren := ⟨fun | 194 => 54 | n => n, fun | 31 => 26 | 9 => 9 | 3 => 3 | 4 => 4 | 0 => 0 | n => n, fun | n => n⟩
theorem Tryz.lays194 : Go.Proofs.Lays.n194 Tryz.prog Tryz.lays194_ren := {
 mixed := by kernel_rfl
 f194 := Tryz.func54.trans (congrArg some (by kernel_rfl))
 t0 := Tryz.underlying0
 a0 := Tryz.isAgg0
 z0 := Tryz.sizeOf0
 v0 := Tryz.zeroValue0
 t3 := Tryz.underlying3
 a3 := Tryz.isAgg3
 z3 := Tryz.sizeOf3
 v3 := Tryz.zeroValue3
 t4 := Tryz.underlying4
 a4 := Tryz.isAgg4
 z4 := Tryz.sizeOf4
 v4 := Tryz.zeroValue4
 t9 := Tryz.underlying9
 a9 := Tryz.isAgg9
 z9 := Tryz.sizeOf9
 v9 := Tryz.zeroValue9
 t31 := Tryz.underlying26
 a31 := Tryz.isAgg26
 z31 := Tryz.sizeOf26
 v31 := Tryz.zeroValue26 }
end Go.Proofs
namespace Go.Proofs.YteankdaegdhfiaaGreatDoor
open Go.RowKit
theorem bgrow {B : Nat} (w : World) (os : Array Obj) (hB : B ≤ w.heap.size) : Below B w (Sort.grow w os) := ⟨rfl, rfl, rfl, by simp [Sort.grow], fun k hk => Sort.heap_grow_old w os (by omega)⟩
/-- The row's own block holds these texts. -/
theorem own_holds {w : World} {base : Nat} {v : Value} {l : List Str} (h : OwnS w base v l) (hp : 0 < l.length) : ∃ g cap, v = .slice (some ⟨g, 0, none⟩) l.length cap ∧ base ≤ g ∧ g < w.heap.size ∧ l.length ≤ cap ∧ Sort.Holds encStr w g 0 l.toArray := by
 rcases h.2 with ⟨_, h0⟩ | ⟨g, cap, cur, e, hb, hg, hn, _, hs, ht⟩
 ·
  omega
 ·
  refine ⟨g, cap, e, hb, lt_of_heap hg, hn, fun j hj => ⟨?_, frozen_at hg _⟩⟩
  have hj' : j < l.length := by simpa using hj
  subst e
  obtain ⟨b, off, e2, hc⟩ := (Sl.owns h (by simp)).strs.2.2 j hj'
  injection e2 with e2
  injection e2 with e3 e4
  subst e3 e4
  rw [hc]
  simp [List.getD, hj']
set_option maxHeartbeats 2000000 in
theorem sort9_any {w : World} {g cap base : Nat} {l : List Str} (hb : base ≤ g) (hB : base ≤ w.heap.size) (hg : g < w.heap.size) (hH : Sort.Holds encStr w g 0 l.toArray) (hn : l.length ≤ 1000000) :
  Calls Tryz.prog 53 #[.slice (some ⟨g, 0, none⟩) l.length cap] w fun e w' => e = .returned (.tuple #[]) ∧ Sort.Holds encStr w' g 0 (l.mergeSort fun x y => decide (x ≤ y)).toArray ∧ Below base w w' := by
 have hcon := AnyM.slices_Sort_string Tryz.laysM6 g 0 cap l w hH hg (by omega)
 change Calls Tryz.prog 53 _ _ _ at hcon
 refine hcon.mono ?_
 rintro e w' ⟨rfl, n, os, rfl⟩
 have hs : (Sort.putRow encStr (Sort.ahead w n) g 0 (l.mergeSort fun x y => decide (x ≤ y)).toArray).heap.size = w.heap.size := by
  rw [Sort.size_putRow]
  rfl
 refine ⟨rfl, ?_, ?_⟩
 ·
  exact Sort.holds_grow _ _ _ _ _ _ (by rw [hs]; exact hg) (Sort.holds_putRow _ _ _ _ l.toArray _ hH (by simp))
 ·
  exact (Lib.below_putRow (Below.refl base w) hb).trans (bgrow _ os (by rw [hs]; exact hB))
set_option maxHeartbeats 2000000 in
theorem compact9_any {w : World} {g cap base : Nat} {l : List Str} (hb : base ≤ g) (hH : Sort.Holds encStr w g 0 l.toArray) (hn : l.length ≤ 1000000) (hc : l.length ≤ cap) :
  Calls Tryz.prog 54 #[.slice (some ⟨g, 0, none⟩) l.length cap] w fun e w' => e = .returned (.slice (some ⟨g, 0, none⟩) (Lib.compact l).length cap) ∧ (∀ j, j < (Lib.compact l).length → w'.cell? ⟨g, j, none⟩ = some (tx ((Lib.compact l).getD j []))) ∧ Below base w w' := by
 have hcon := Any.slices_Compact_string Tryz.lays194 g 0 cap l w hH (by omega) hc
 change Calls Tryz.prog 54 _ _ _ at hcon
 refine hcon.mono ?_
 rintro e w' ⟨rfl, q, rfl⟩
 have hle : (Lib.compact l).length ≤ l.length := Lib.compact_length_le l
 refine ⟨rfl, fun j hj => ?_, Lib.below_putRow (Below.refl base w) hb⟩
 have h2 := (Sort.holds_putRow encStr (Sort.ahead w q) g 0 l.toArray (Lib.compact l ++ List.replicate (l.length - (Lib.compact l).length) []).toArray hH (by simp; omega) j (by simp; omega)).1
 rw [Nat.zero_add] at h2
 rw [h2]
 simp [List.getD, List.getElem?_append_left hj, List.getElem?_eq_getElem hj]
def mets (e : Ex) : List Str := Lib.compact ((metE e).mergeSort fun x y => decide (x ≤ y))
theorem TrP.inw {P : Nat → Prop} {w : World} {e : Ex} {cs : Array Value} (h : TrP P w e cs) : TrP (fun b => b < w.heap.size) w e cs := by
 revert cs
 refine Ex.ind (fun e => ∀ {cs : Array Value}, TrP P w e cs → TrP (fun b => b < w.heap.size) w e cs) ?_ e
 intro e ih cs h
 have c : ∀ {v : Value} {n : Nat} {cs : List Value}, SlP P w v n cs → (0 < n → 0 < cs.length) → SlP (fun b => b < w.heap.size) w v n cs := fun {v n cs} h hl => by
  obtain ⟨ao, cap, e, hc, h4⟩ := h
  refine ⟨ao, cap, e, hc, fun hp => ?_⟩
  obtain ⟨b, off, e1, hl1, hcs⟩ := h4 hp
  have q := hcs 0 (hl hp)
  rw [List.getElem?_eq_getElem (hl hp)] at q
  exact ⟨b, off, e1, World.block_lt_of_cell? _ _ q, hcs⟩
 obtain ⟨vm, vn, vk, kss, h1, h2, h3, h4, h5, h6⟩ := (Tr_eq _ _ _ _).mp h
 refine (Tr_eq _ _ _ _).mpr ⟨vm, vn, vk, kss, h1, c h2 (fun hp => by rw [cellsM_len]; omega), c h3 (fun hp => by simpa using hp), c h4 (fun hp => ?_), h5, fun i x hx hi => ih x hx (h6 i x hx hi)⟩
 have hk : 0 < e.ks.length := hp
 have hx : e.ks[0]? = some e.ks[0] := List.getElem?_eq_getElem hk
 have r := TrP.row (h6 0 _ (List.getElem_mem hk) hx)
 cases kss with
 | nil => simp at h5; omega
 | cons a l =>
  have : a.size = 13 := r.1
  simp
  omega
set_option maxHeartbeats 4000000 in
theorem metrics_any {P : Nat → Prop} {w : World} {e : Ex} {cs : Array Value} (h : TrP P w e cs) (hs : Sm e) (hl : (metE e).length ≤ 100000) :
  Calls Tryz.prog 26 #[.agg cs] w fun x w' => ∃ v', x = .returned v' ∧ Sl w' w.heap.size v' (mets e).length ((mets e).map tx) ∧ Below w.heap.size w w' := by
 have hM := fun W (hW : Below w.heap.size w W) => met_ok (P := fun b => b < w.heap.size) e hs W w.heap.size (.slice none 0 0) [] cs (fun b hb => hb) hW.size ⟨rfl, Or.inl ⟨rfl, rfl⟩⟩ (by simpa using hl) (TrP.later (TrP.inw h) hW)
 obtain ⟨vm, vn, ao, cap, rfl, sm, sn, _, _⟩ := h.parts
 obtain ⟨am, cm, rfl, _⟩ := sm
 obtain ⟨an, cn, rfl, _⟩ := sn
 clear h hs
 have qa := heap_new w (.cells (exA e.k e.p e.o e.v e.s (.slice am e.m.length cm) e.r e.b1 e.b2 e.b3 e.b4 (.slice an e.ns.length cn) (.slice ao e.ks.length cap)) 29)
 have B1 := bal (Below.refl w.heap.size w) (.cells (exA e.k e.p e.o e.v e.s (.slice am e.m.length cm) e.r e.b1 e.b2 e.b3 e.b4 (.slice an e.ns.length cn) (.slice ao e.ks.length cap)) 29)
 have HD : Hid (mets e = Lib.compact ((metE e).mergeSort fun x y => decide (x ≤ y))) := rfl
 go_enter Tryz.func26, Tryz.ntmps26
 go_upto_region 1 with fail
 generalize w.alloc (.cells (exA e.k e.p e.o e.v e.s (.slice am e.m.length cm) e.r e.b1 e.b2 e.b3 e.b4 (.slice an e.ns.length cn) (.slice ao e.ks.length cap)) 29) = w1 at *
 go_wp2_with (refine wp_get rfl 29 _ rfl w.heap.size (exA e.k e.p e.o e.v e.s (.slice am e.m.length cm) e.r e.b1 e.b2 e.b3 e.b4 (.slice an e.ns.length cn) (.slice ao e.ks.length cap)) 29 rfl qa _ Tryz.underlying29 rfl 13 inf29 rfl ?_)
 refine (hM _ B1).mono ?_
 rintro x w2 ⟨v2, rfl, ho, b2⟩
 have B2 := B1.trans b2
 have hB2 := B2.size
 rw [List.nil_append] at ho
 clear hM qa
 generalize metE e = l at *
 by_cases h0 : l.length = 0
 ·
  obtain rfl : l = [] := List.length_eq_zero_iff.1 h0
  have HN : Hid (mets e = []) := by show _ = _; rw [HD.out, List.mergeSort_nil]; rfl
  obtain ⟨a2, c2, rfl, _⟩ := ho.slice
  have hso := AnyM.slices_Sort_string_none Tryz.laysM6 a2 c2 w2
  change Calls Tryz.prog 53 _ _ _ at hso
  have hco := Any.slices_Compact_string_empty Tryz.lays194 a2 c2 w2
  change Calls Tryz.prog 54 _ _ _ at hco
  clear h0 ho HD
  simp only [List.length_nil] at *
  go_wp2_with fail
  refine hso.mono ?_
  rintro x w3 ⟨rfl, rfl⟩
  go_wp2_with fail
  refine hco.mono ?_
  rintro x w3 ⟨rfl, rfl⟩
  go_wp2_with fail
  go_ret
  exact ⟨_, rfl, by rw [HN.out]; exact ⟨_, _, rfl, Nat.zero_le _, fun h => by simp at h⟩, B2⟩
 ·
  obtain ⟨g, cap2, rfl, hg1, hg2, hcp, hH⟩ := own_holds ho (by omega)
  have hso := sort9_any (cap := cap2) hg1 hB2 hg2 hH (by omega)
  have hlen : (l.mergeSort fun x y => decide (x ≤ y)).length = l.length := List.length_mergeSort _
  generalize (l.mergeSort fun x y => decide (x ≤ y)) = m at *
  rw [← hlen] at hso hcp ⊢
  have hml : m.length ≤ 100000 := by omega
  clear hlen ho hH h0 hl hg2
  generalize hmn : m.length = n at *
  have HMN : Hid (m.length = n) := hmn
  clear hmn
  go_wp2_with fail
  refine hso.mono ?_
  rintro x w3 ⟨rfl, hH3, b3⟩
  have hco := compact9_any (cap := cap2) hg1 hH3 (by have := HMN.out; omega) (by have := HMN.out; omega)
  rw [HMN.out] at hco
  have B3 := B2.trans b3
  have HN : Hid (mets e = Lib.compact m) := HD.out
  have hle : (Lib.compact m).length ≤ n := by rw [← HMN.out]; exact Lib.compact_length_le m
  clear HD hso hH3
  go_wp2_with fail
  refine hco.mono ?_
  rintro x w4 ⟨rfl, hc4, b4⟩
  go_wp2_with fail
  go_ret
  refine ⟨_, rfl, ?_, B3.trans b4⟩
  rw [HN.out]
  refine ⟨_, _, rfl, by omega, fun _ => ⟨g, 0, rfl, hg1, fun j hj => ?_⟩⟩
  have hj' : j < (Lib.compact m).length := by simpa using hj
  rw [Nat.zero_add, hc4 j hj']
  simp [List.getD, List.getElem?_eq_getElem hj']
end Go.Proofs.YteankdaegdhfiaaGreatDoor
