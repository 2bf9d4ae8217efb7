/- Texts that the others lean on. -/
import Derived.Test.YtjgckfcocmhnhaaGreatDoorProg
import Derived.Test.YtjgckfcocmhnhaaGreatDoorKLPlain
import Derived.WalkKit
import Derived.WalkSpells
import Derived.WalkLawsBesides
import Derived.Deep.RegionHeld3
import Derived.BigQuiet
import Derived.Laws.StructEq
import Derived.Lib.Bytealg
import Derived.Lib.Index
import Derived.Lib.TrimByte
import Derived.Shelf.Strings.Trim
import Derived.Shelf.Strings.Prefix
import Derived.Shelf.Small.Strs
import Derived.Shelf.Strings.Search3
namespace Go.Proofs.YtjgckfcocmhnhaaGreatDoor.Lb
open Go.RowKit
theorem ret_int {k : IntKind} {a b : Int} (h : a = b) : Ending.returned (.int k a) = .returned (.int k b) := by rw [h]
theorem ret_bool {a b : Bool} (h : a = b) : Ending.returned (.bool a) = .returned (.bool b) := by rw [h]
theorem Below.chain {a b c : World} (h : Below a.heap.size a b) (k : Below b.heap.size b c) : Below a.heap.size a c := h.trans (k.mono h.size)
theorem bal {a w : World} (h : Below a.heap.size a w) (o : Obj) : Below a.heap.size a (w.alloc o) := h.alloc h.size o
theorem ba_size (l : Str) : (⟨l.toArray⟩ : ByteArray).size = l.length := by show l.toArray.size = _; simp
theorem ba_lt {l : Str} {k : Nat} (h : k < l.length) : k < (⟨l.toArray⟩ : ByteArray).size := by rw [ba_size]; exact h
theorem take_snocB (l : Str) (k : Nat) (h : k < l.length) : l.take (k + 1) = l.take k ++ [l[k]] := List.take_succ_eq_append_getElem h
theorem isDigit_any (c : UInt8) (w : World) : Calls Tryz.prog 100 #[.int .u8 c.toNat] w fun e w' => e = .returned (.bool (digB c)) ∧ w = w' := by
 unfold digB
 go_enter Tryz.func100, Tryz.ntmps100
 go_wp2
 all_goals
  go_ret
  exact ⟨ret_bool (by rw [Bool.eq_iff_iff]; simp; omega), rfl⟩
theorem isLetter_any (c : UInt8) (w : World) : Calls Tryz.prog 101 #[.int .u8 c.toNat] w fun e w' => e = .returned (.bool (letB c)) ∧ w = w' := by
 unfold letB
 go_enter Tryz.func101, Tryz.ntmps101
 go_wp2
 all_goals
  go_ret
  exact ⟨ret_bool (by rw [Bool.eq_iff_iff]; simp; omega), rfl⟩
end Go.Proofs.YtjgckfcocmhnhaaGreatDoor.Lb
namespace Go.Proofs.YtjgckfcocmhnhaaGreatDoor.Lb
open Go.RowKit
theorem all_snoc (l : Str) (c : UInt8) (f : UInt8 → Bool) : (l ++ [c]).all f = (l.all f && f c) := by simp
theorem not_all {l : Str} (k : Nat) (hk : k < l.length) (h : nameCh l[k] = false) : l.all nameCh = false := by
 cases hd : l.all nameCh with
 | false => rfl
 | true => rw [List.all_eq_true.1 hd _ (List.getElem_mem hk)] at h; cases h
set_option maxHeartbeats 1000000 in
theorem name_any (l : Str) (w : World) (hl : l.length ≤ 9223372036854775807) :
  Calls Tryz.prog 62 #[.string ⟨l.toArray⟩] w fun e w' => e = .returned (.bool (fName l)) ∧ w = w' := by
 by_cases h1 : 1 ≤ l.length
 ·
  have h1' : ¬ (l.length : Int) < 1 := by omega
  by_cases h2 : l.length ≤ 20
  ·
   have h2' : ¬ (20 : Int) < l.length := by omega
   have hb0 := ba_lt h1
   have hd0 := fun w => isDigit_any ((⟨l.toArray⟩ : ByteArray)[0]'hb0) w
   have hdh : l.headD 0 = (⟨l.toArray⟩ : ByteArray)[0]'hb0 := by
    cases l with
    | nil => cases h1
    | cons c r => rfl
   have e : fName l = (!digB ((⟨l.toArray⟩ : ByteArray)[0]'hb0) && l.all nameCh) := by simp only [fName, h1, h2, hdh, decide_true, Bool.true_and]
   rw [e]
   have HE : Hid (fName l = (!digB ((⟨l.toArray⟩ : ByteArray)[0]'hb0) && l.all nameCh)) := e
   clear e hdh
   cases hd : digB ((⟨l.toArray⟩ : ByteArray)[0]'hb0) with
   | true =>
    rw [hd] at hd0
    go_enter Tryz.func62, Tryz.ntmps62
    go_wp2_with (go_at_call 100; refine (hd0 _).mono ?_; rintro e w' ⟨rfl, rfl⟩)
    go_ret
    exact ⟨by simp, rfl⟩
   | false =>
    rw [hd] at hd0
    clear hd HE
    go_enter Tryz.func62, Tryz.ntmps62
    go_wp2_with (go_at_call 100; refine (hd0 _).mono ?_; rintro e w' ⟨rfl, rfl⟩)
    go_loop [19] (fun i => ∃ k : Nat, k ≤ l.length ∧ i = .int .i64 k ∧ Hid ((l.take k).all nameCh = true)) (fun i => l.length - (intOf i).toNat)
    case atStart => exact ⟨0, by omega, rfl, rfl⟩
    case round =>
     obtain ⟨k, hk, rfl, ha⟩ := hrel
     by_cases hlt : k < l.length
     ·
      have hbk := ba_lt hlt
      have hdk := fun w => isDigit_any ((⟨l.toArray⟩ : ByteArray)[k]'hbk) w
      have hlk := fun w => isLetter_any ((⟨l.toArray⟩ : ByteArray)[k]'hbk) w
      have HC : Hid (nameCh l[k] = (digB ((⟨l.toArray⟩ : ByteArray)[k]'hbk) || letB ((⟨l.toArray⟩ : ByteArray)[k]'hbk) || decide (((⟨l.toArray⟩ : ByteArray)[k]'hbk).toNat = 95))) := rfl
      have HS : Hid ((l.take (k + 1)).all nameCh = nameCh l[k]) := by
       show _ = _
       rw [take_snocB l k hlt, all_snoc, ha.out, Bool.true_and]
      have HN : Hid (nameCh l[k] = false → l.all nameCh = false) := not_all k hlt
      generalize nameCh l[k] = N at *
      cases hdc : digB ((⟨l.toArray⟩ : ByteArray)[k]'hbk) with
      | true =>
       rw [hdc] at hdk
       have HT : Hid ((l.take (k + 1)).all nameCh = true) := by show _ = _; rw [HS.out, HC.out, hdc]; rfl
       clear hdc
       go_wp2_with (go_at_call 100; refine (hdk _).mono ?_; rintro e w' ⟨rfl, rfl⟩)
       go_round
       case rel => exact ⟨k + 1, by omega, by go_num, HT⟩
       case measure => simp [intOf]; omega
      | false =>
       rw [hdc] at hdk
       cases hlc : letB ((⟨l.toArray⟩ : ByteArray)[k]'hbk) with
       | true =>
        rw [hlc] at hlk
        have HT : Hid ((l.take (k + 1)).all nameCh = true) := by show _ = _; rw [HS.out, HC.out, hdc, hlc]; rfl
        clear hdc hlc
        go_wp2_with (first | (go_at_call 100; refine (hdk _).mono ?_; rintro e w' ⟨rfl, rfl⟩) | (go_at_call 101; refine (hlk _).mono ?_; rintro e w' ⟨rfl, rfl⟩))
        go_round
        case rel => exact ⟨k + 1, by omega, by go_num, HT⟩
        case measure => simp [intOf]; omega
       | false =>
        rw [hlc] at hlk
        by_cases hu : ((⟨l.toArray⟩ : ByteArray)[k]'hbk).toNat = 95
        ·
         have HT : Hid ((l.take (k + 1)).all nameCh = true) := by show _ = _; rw [HS.out, HC.out, hdc, hlc]; simp [hu]
         clear hdc hlc
         have hu' : ((((⟨l.toArray⟩ : ByteArray)[k]'hbk).toNat : Int) != 95) = false := by rw [bne_eq_false_iff_eq]; omega
         clear hu
         go_wp2_with (first | (go_at_call 100; refine (hdk _).mono ?_; rintro e w' ⟨rfl, rfl⟩) | (go_at_call 101; refine (hlk _).mono ?_; rintro e w' ⟨rfl, rfl⟩))
         go_round
         case rel => exact ⟨k + 1, by omega, by go_num, HT⟩
         case measure => simp [intOf]; omega
        ·
         have HF : Hid (l.all nameCh = false) := HN.out (by rw [HC.out, hdc, hlc]; simp [hu])
         clear hdc hlc
         have hu' : ((((⟨l.toArray⟩ : ByteArray)[k]'hbk).toNat : Int) != 95) = true := by rw [bne_iff_ne]; omega
         clear hu
         go_wp2_with (first | (go_at_call 100; refine (hdk _).mono ?_; rintro e w' ⟨rfl, rfl⟩) | (go_at_call 101; refine (hlk _).mono ?_; rintro e w' ⟨rfl, rfl⟩))
         go_ret
         exact ⟨by rw [HF.out]; rfl, rfl⟩
     ·
      have HF : Hid (l.all nameCh = true) := by
       have := ha.out
       rw [List.take_of_length_le (by omega)] at this
       exact this
      go_wp2_with fail
      go_ret
      exact ⟨by rw [HF.out]; rfl, rfl⟩
  ·
   have h2' : (20 : Int) < l.length := by omega
   have e : fName l = false := by simp [fName, h2]
   rw [e]
   go_enter Tryz.func62, Tryz.ntmps62
   go_wp2_with fail
   go_ret
   exact ⟨rfl, rfl⟩
 ·
  have h1' : (l.length : Int) < 1 := by omega
  have e : fName l = false := by simp [fName, h1]
  rw [e]
  go_enter Tryz.func62, Tryz.ntmps62
  go_wp2_with fail
  go_ret
  exact ⟨rfl, rfl⟩
end Go.Proofs.YtjgckfcocmhnhaaGreatDoor.Lb
namespace Go.Proofs.YtjgckfcocmhnhaaGreatDoor.Lb
theorem get_nil (n : Str) : fGet [] n = [] := rfl
theorem get_cons (p : Pr) (l : List Pr) (n : Str) : fGet (p :: l) n = if p.1 = n then p.2 else fGet l n := by
 unfold fGet
 rw [List.find?_cons]
 by_cases h : p.1 = n
 ·
  simp [h]
 ·
  simp [h]
/-! ### Of each name the last -/
def lastOf : List Pr → List Pr
 | [] => []
 | p :: r => if r.any (fun q => decide (q.1 = p.1)) = true then lastOf r else p :: lastOf r
/-- Of the pairs that lie side by side under one name the last. -/
def ends : List Pr → List Pr
 | [] => []
 | [p] => [p]
 | p :: q :: r => if p.1 = q.1 then ends (q :: r) else p :: ends (q :: r)
/-- The last pair of that name. -/
def lastN (l : List Pr) (n : Str) : Option Pr := (l.filter fun p => decide (p.1 = n)).getLast?
def latest (l p : List Pr) : List Pr := srt (lastOf (l ++ p))
def withE (l p : List Pr) : Int := if fIs l = true then (if fIs (full (latest l p)) = true then 0 else 30) else 30
def withL (l p : List Pr) : List Pr := if withE l p = 0 then full (latest l p) else []
end Go.Proofs.YtjgckfcocmhnhaaGreatDoor.Lb
namespace Go.Proofs.YtjgckfcocmhnhaaGreatDoor.Lb
open Go.RowKit
/-- A text as the model has it. -/
abbrev tx (s : Str) : Value := .string ⟨s.toArray⟩
/-- A slice of pairs: as many as are told. -/
def Ps (w : World) (ao : Option Addr) (n : Nat) (l : List Pr) : Prop :=
 l.length = n ∧ (0 < n → ∃ b off, ao = some ⟨b, off, none⟩ ∧ ∀ j, j < n → w.cell? ⟨b, off + j * 2, none⟩ = some (tx (l.getD j ([], [])).1) ∧ w.cell? ⟨b, off + j * 2 + 1, none⟩ = some (tx (l.getD j ([], [])).2))
theorem Ps.later {w w' : World} {ao : Option Addr} {n : Nat} {l : List Pr} (h : Ps w ao n l) (hb : Below w.heap.size w w') : Ps w' ao n l := by
 obtain ⟨h1, h4⟩ := h
 refine ⟨h1, fun hp => ?_⟩
 obtain ⟨b, off, e, hc⟩ := h4 hp
 exact ⟨b, off, e, fun j hj => ⟨(hb.cell (p := ⟨b, off + j * 2, none⟩) (World.block_lt_of_cell? _ _ (hc j hj).1)).trans (hc j hj).1, (hb.cell (p := ⟨b, off + j * 2 + 1, none⟩) (World.block_lt_of_cell? _ _ (hc j hj).2)).trans (hc j hj).2⟩⟩
theorem Ps.nil (w : World) (ao : Option Addr) : Ps w ao 0 [] := ⟨rfl, fun h => by omega⟩
/-- No text is longer than a text can be. -/
def Fit (l : List Pr) : Prop := ∀ p ∈ l, p.1.length ≤ 9223372036854775807 ∧ p.2.length ≤ 9223372036854775807
theorem Fit.at {l : List Pr} (h : Fit l) (j : Nat) : (l.getD j ([], [])).1.length ≤ 9223372036854775807 ∧ (l.getD j ([], [])).2.length ≤ 9223372036854775807 := by
 by_cases hj : j < l.length
 ·
  rw [List.getD, List.getElem?_eq_getElem hj]
  exact h _ (List.getElem_mem hj)
 ·
  rw [List.getD, List.getElem?_eq_none (by omega)]
  simp
/-- A pair that lies in a block of its own. -/
structure Box (w : World) (b : Nat) (p : Pr) : Prop where
 c0 : w.cell? ⟨b, 0, none⟩ = some (tx p.1)
 c1 : w.cell? ⟨b, 1, none⟩ = some (tx p.2)
 f0 : w.frozen? ⟨b, 0, none⟩ = false
 f1 : w.frozen? ⟨b, 1, none⟩ = false
theorem Box.new (w : World) (p : Pr) : Box (w.alloc (.cells #[tx p.1, tx p.2] 45)) w.heap.size p := by
 constructor <;> simp [go_sem]
theorem Box.later {w w' : World} {b : Nat} {p : Pr} (h : Box w b p) (hb : Below w.heap.size w w') : Box w' b p := by
 have hl : b < w.heap.size := World.block_lt_of_cell? _ _ h.c0
 exact ⟨(hb.cell (p := ⟨b, 0, none⟩) hl).trans h.c0, (hb.cell (p := ⟨b, 1, none⟩) hl).trans h.c1, (hb.frozen (p := ⟨b, 0, none⟩) hl).trans h.f0, (hb.frozen (p := ⟨b, 1, none⟩) hl).trans h.f1⟩
theorem Box.lt {w : World} {b : Nat} {p : Pr} (h : Box w b p) : b < w.heap.size := World.block_lt_of_cell? _ _ h.c0
/-! ### Get -/
theorem getD_at {l : List Pr} {k : Nat} (hk : k < l.length) : l.getD k ([], []) = l[k] := by simp [List.getD, List.getElem?_eq_getElem hk]
theorem get_take_skip {l : List Pr} {n : Str} {k : Nat} (hk : k < l.length) (h : (l.getD k ([], [])).1 ≠ n) : fGet (l.drop k) n = fGet (l.drop (k + 1)) n := by
 rw [List.drop_eq_getElem_cons hk, get_cons]
 rw [getD_at hk] at h
 rw [if_neg h]
theorem get_take_hit {l : List Pr} {n : Str} {k : Nat} (hk : k < l.length) (h : (l.getD k ([], [])).1 = n) : fGet (l.drop k) n = (l.getD k ([], [])).2 := by
 rw [List.drop_eq_getElem_cons hk, get_cons]
 rw [getD_at hk] at *
 rw [if_pos h]
set_option maxHeartbeats 1000000 in
theorem get_any (ao : Option Addr) (n cap : Nat) (l : List Pr) (s : Str) (w : World) (hn : n ≤ 9223372036854775807) (hs : Ps w ao n l) :
  Calls Tryz.prog 98 #[.slice ao n cap, tx s] w fun e w' => e = .returned (tx (fGet l s)) ∧ Below w.heap.size w w' := by
 obtain ⟨hlen, hcell⟩ := hs
 have HL : Hid (l.length = n) := hlen
 clear hlen
 go_enter Tryz.func98, Tryz.ntmps98
 go_wp2
 go_loopw [9] (fun i wr => ∃ j : Nat, j ≤ n ∧ i = .int .i64 j ∧ Hid (fGet l s = fGet (l.drop j) s) ∧ Below w.heap.size w wr) (fun i _ => n - (intOf i).toNat)
 case atStart => exact ⟨0, by omega, rfl, rfl, Below.refl _ _⟩
 case round =>
  obtain ⟨j, hj, rfl, hg, hb⟩ := hrel
  by_cases hlt : j < n
  ·
   obtain ⟨b, off, rfl, hc⟩ := hcell (by omega)
   have hc0 := (hc j hlt).1
   have hc1 := (hc j hlt).2
   have k0 := (hb.cell (p := ⟨b, off + j * 2, none⟩) (World.block_lt_of_cell? _ _ hc0)).trans hc0
   have k1 := (hb.cell (p := ⟨b, off + j * 2 + 1, none⟩) (World.block_lt_of_cell? _ _ hc1)).trans hc1
   have hlt' : j < l.length := by rw [HL.out]; exact hlt
   have HSk : Hid _ := get_take_skip (n := s) hlt'
   have HHi : Hid _ := get_take_hit (n := s) hlt'
   clear hc hcell hc0 hc1 hlt'
   have hb1 : ∀ o, Below w.heap.size w (wr.alloc o) := bal hb
   generalize l.getD j ([], []) = p at *
   obtain ⟨p1, p2⟩ := p
   dsimp only at *
   by_cases he : p1 = s
   ·
    have he' : (p1 == s) = true := by simpa using he
    have HR : Hid (fGet l s = p2) := by show _ = _; rw [hg.out, HHi.out he]
    clear he HSk HHi hg
    go_wp2
    go_ret
    exact ⟨by rw [HR.out]; rfl, hb1 _⟩
   ·
    have he' : (p1 == s) = false := by simpa using he
    have HR : Hid (fGet l s = fGet (l.drop (j + 1)) s) := by show _ = _; rw [hg.out, HSk.out he]
    clear he HSk HHi hg
    go_wp2
    go_roundw
    case rel => exact ⟨j + 1, by omega, by go_num, HR, hb1 _⟩
    case measure => simp [intOf]; omega
  ·
   have HR : Hid (fGet l s = []) := by
    show _ = _
    rw [hg.out, List.drop_eq_nil_of_le (by rw [HL.out]; omega)]
    rfl
   go_wp2
   go_ret
   exact ⟨by rw [HR.out]; rfl, hb⟩
end Go.Proofs.YtjgckfcocmhnhaaGreatDoor.Lb
namespace Go.Proofs.YtjgckfcocmhnhaaGreatDoor.Lb
/-- A star: some end of the text is taken. -/
def star (f : List UInt8 → Bool) : List UInt8 → Bool
 | [] => f []
 | d :: t => f (d :: t) || star f t
/-- Does the text as a whole match? -/
def gm : List UInt8 → List UInt8 → Bool
 | [], s => s.isEmpty
 | c :: p, s => if c = 42 then star (fun t => gm p t) s else
  match s with
  | [] => false
  | d :: t => (c == 63 || c == d) && gm p t
theorem gm_nil (s : List UInt8) : gm [] s = s.isEmpty := by simp [gm]
theorem gm_star (p s : List UInt8) : gm (42 :: p) s = star (gm p) s := by rw [gm.eq_def]; simp
theorem gm_cons {c : UInt8} (h : c ≠ 42) (p : List UInt8) (d : UInt8) (t : List UInt8) : gm (c :: p) (d :: t) = ((c == 63 || c == d) && gm p t) := by rw [gm]; simp [h]
theorem gm_cons_nil {c : UInt8} (h : c ≠ 42) (p : List UInt8) : gm (c :: p) [] = false := by rw [gm]; simp [h]
theorem star_iff (f : List UInt8 → Bool) (s : List UInt8) : star f s = true ↔ ∃ a b, s = a ++ b ∧ f b = true := by
 induction s with
 | nil =>
  rw [star]
  constructor
  ·
   intro h; exact ⟨[], [], rfl, h⟩
  ·
   rintro ⟨a, b, h, k⟩
   have := List.append_eq_nil_iff.1 h.symm
   rw [this.2] at k; exact k
 | cons d t ih =>
  rw [star, Bool.or_eq_true, ih]
  constructor
  ·
   rintro (h | ⟨a, b, rfl, k⟩)
   ·
    exact ⟨[], _, rfl, h⟩
   ·
    exact ⟨d :: a, b, rfl, k⟩
  ·
   rintro ⟨a, b, h, k⟩
   cases a with
   | nil => left; rw [List.nil_append] at h; rw [h]; exact k
   | cons x a =>
    right
    rw [List.cons_append] at h
    injection h with h1 h2
    exact ⟨a, b, h2, k⟩
theorem star_up {f : List UInt8 → Bool} {b : List UInt8} (a : List UInt8) (h : star f b = true) : star f (a ++ b) = true := by
 obtain ⟨x, y, rfl, k⟩ := (star_iff _ _).1 h
 exact (star_iff _ _).2 ⟨a ++ x, y, by rw [List.append_assoc], k⟩
theorem star_here {f : List UInt8 → Bool} {b : List UInt8} (h : f b = true) : star f b = true := (star_iff _ _).2 ⟨[], b, rfl, h⟩
theorem gm_end (r : List UInt8) : gm r [] = r.all (· == 42) := by
 induction r with
 | nil => rfl
 | cons c r ih =>
  by_cases h : c = 42
  ·
   subst h; rw [gm_star, star, ih]; rfl
  ·
   rw [gm_cons_nil h, List.all_cons]; simp [h]
/-- A piece without stars, and what it matches, byte by byte. -/
def mt : List UInt8 → List UInt8 → Prop
 | [], [] => True
 | c :: p, d :: t => c ≠ 42 ∧ (c = 63 ∨ c = d) ∧ mt p t
 | _, _ => False
theorem mt_gm {g t : List UInt8} (h : mt g t) (r u : List UInt8) : gm (g ++ r) (t ++ u) = gm r u := by
 induction g generalizing t with
 | nil => cases t with
  | nil => rfl
  | cons => exact h.elim
 | cons c p ih => cases t with
  | nil => exact h.elim
  | cons d t =>
   obtain ⟨h1, h2, h3⟩ := h
   rw [List.cons_append, List.cons_append, gm_cons h1, ih h3]
   rcases h2 with h2 | h2 <;> simp [h2]
theorem mt_snoc {g t : List UInt8} (h : mt g t) {c d : UInt8} (h1 : c ≠ 42) (h2 : c = 63 ∨ c = d) : mt (g ++ [c]) (t ++ [d]) := by
 induction g generalizing t with
 | nil => cases t with
  | nil => exact ⟨h1, h2, trivial⟩
  | cons => exact h.elim
 | cons c p ih => cases t with
  | nil => exact h.elim
  | cons d t => exact ⟨h.1, h.2.1, ih h.2.2⟩
theorem mt_len {g t : List UInt8} (h : mt g t) : g.length = t.length := by
 induction g generalizing t with
 | nil => cases t with
  | nil => rfl
  | cons => exact h.elim
 | cons c p ih => cases t with
  | nil => exact h.elim
  | cons d t => simp [ih h.2.2]
theorem mt_free {g t : List UInt8} (h : mt g t) : ∀ c ∈ g, c ≠ 42 := by
 induction g generalizing t with
 | nil => intro c hc; cases hc
 | cons c p ih => cases t with
  | nil => exact h.elim
  | cons d t =>
   intro x hx
   rcases List.mem_cons.1 hx with rfl | hx
   ·
    exact h.1
   ·
    exact ih h.2.2 x hx
theorem gm_free {g : List UInt8} (hg : ∀ c ∈ g, c ≠ 42) (r s : List UInt8) (h : gm (g ++ r) s = true) : ∃ t u, s = t ++ u ∧ t.length = g.length ∧ mt g t ∧ gm r u = true := by
 induction g generalizing s with
 | nil => exact ⟨[], s, rfl, rfl, trivial, h⟩
 | cons c p ih =>
  have hc := hg c (by simp)
  cases s with
  | nil => rw [List.cons_append, gm_cons_nil hc] at h; cases h
  | cons d t =>
   rw [List.cons_append, gm_cons hc, Bool.and_eq_true] at h
   obtain ⟨t1, u, rfl, hl, hm, hr⟩ := ih (fun x hx => hg x (by simp [hx])) t h.2
   exact ⟨d :: t1, u, rfl, by simp [hl], ⟨hc, by simpa using h.1, hm⟩, hr⟩
theorem mt_star {g t : List UInt8} (h : mt g t) (r u : List UInt8) : star (gm (g ++ 42 :: r)) (t ++ u) = star (gm r) u := by
 rw [Bool.eq_iff_iff]
 constructor
 ·
  intro hs
  obtain ⟨a, b, e, k⟩ := (star_iff _ _).1 hs
  obtain ⟨t1, u1, rfl, hl, _, hr⟩ := gm_free (mt_free h) _ _ k
  rw [gm_star] at hr
  have hlen : t.length ≤ (a ++ t1).length := by rw [← mt_len h, List.length_append]; omega
  have e2 : t ++ u = (a ++ t1) ++ u1 := by rw [e, List.append_assoc]
  obtain ⟨z, hz⟩ := List.prefix_of_prefix_length_le (List.prefix_append t u) (e2 ▸ List.prefix_append (a ++ t1) u1) hlen
  rw [← hz, List.append_assoc] at e2
  rw [List.append_cancel_left e2]
  exact star_up z hr
 ·
  intro hs
  refine star_here ?_
  rw [mt_gm h, gm_star]
  exact hs
theorem mt_done {g t : List UInt8} (h : mt g t) (r : List UInt8) : star (gm (g ++ r)) t = gm r [] := by
 rw [Bool.eq_iff_iff]
 constructor
 ·
  intro hs
  obtain ⟨a, b, e, k⟩ := (star_iff _ _).1 hs
  obtain ⟨t1, u1, rfl, hl, _, hr⟩ := gm_free (mt_free h) _ _ k
  have := congrArg List.length e
  simp only [List.length_append, ← mt_len h] at this
  have hu : u1 = [] := List.length_eq_zero_iff.1 (by omega)
  rw [hu] at hr; exact hr
 ·
  intro hs
  refine star_here ?_
  have := mt_gm h r []
  rw [List.append_nil] at this
  rw [this]; exact hs
/-- What the search keeps: pattern at p, text at i, the last star at q tried from byte k. -/
def GI (P S : List UInt8) (p i : Nat) (q : Int) (k : Nat) : Prop :=
 p ≤ P.length ∧ i ≤ S.length ∧ k ≤ i ∧
 ((q = -1 ∧ gm P S = gm (P.drop p) (S.drop i)) ∨
  ∃ a : Nat, q = a ∧ a < p ∧ ∃ g t, mt g t ∧ P.drop (a + 1) = g ++ P.drop p ∧ S.drop k = t ++ S.drop i ∧ gm P S = star (gm (P.drop (a + 1))) (S.drop k))
theorem GI_start (P S : List UInt8) : GI P S 0 0 (-1) 0 := ⟨Nat.zero_le _, Nat.zero_le _, Nat.le_refl _, .inl ⟨rfl, rfl⟩⟩
theorem GI_star {P S : List UInt8} {p i k : Nat} {q : Int} (h : GI P S p i q k) (hp : p < P.length) (hc : P[p] = 42) : GI P S (p + 1) i p i := by
 obtain ⟨h1, h2, h3, h4⟩ := h
 refine ⟨by omega, h2, Nat.le_refl _, .inr ⟨p, rfl, by omega, [], [], trivial, rfl, rfl, ?_⟩⟩
 have hd : P.drop p = 42 :: P.drop (p + 1) := by rw [List.drop_eq_getElem_cons hp, hc]
 rcases h4 with ⟨_, h⟩ | ⟨a, _, _, g, t, hm, e1, e2, h⟩
 ·
  rw [h, hd, gm_star]
 ·
  rw [h, e1, e2, hd, mt_star hm]
theorem GI_match {P S : List UInt8} {p i k : Nat} {q : Int} (h : GI P S p i q k) (hp : p < P.length) (hi : i < S.length) (hc : P[p] ≠ 42) (hm : P[p] = 63 ∨ P[p] = S[i]) : GI P S (p + 1) (i + 1) q k := by
 obtain ⟨h1, h2, h3, h4⟩ := h
 refine ⟨by omega, by omega, by omega, ?_⟩
 have hd : P.drop p = P[p] :: P.drop (p + 1) := List.drop_eq_getElem_cons hp
 have hs : S.drop i = S[i] :: S.drop (i + 1) := List.drop_eq_getElem_cons hi
 rcases h4 with ⟨hq, h⟩ | ⟨a, hq, ha, g, t, hmt, e1, e2, h⟩
 ·
  refine .inl ⟨hq, ?_⟩
  rw [h, hd, hs, gm_cons hc]
  rcases hm with hm | hm <;> simp [hm]
 ·
  refine .inr ⟨a, hq, by omega, g ++ [P[p]], t ++ [S[i]], mt_snoc hmt hc hm, ?_, ?_, h⟩
  ·
   rw [e1, hd, List.append_assoc]; rfl
  ·
   rw [e2, hs, List.append_assoc]; rfl
theorem gm_stuck {P S : List UInt8} {p i : Nat} (hi : i < S.length) (hx : ∀ hp : p < P.length, P[p] ≠ 42 ∧ P[p] ≠ 63 ∧ P[p] ≠ S[i]) : gm (P.drop p) (S.drop i) = false := by
 have hs : S.drop i = S[i] :: S.drop (i + 1) := List.drop_eq_getElem_cons hi
 by_cases hp : p < P.length
 ·
  have hd : P.drop p = P[p] :: P.drop (p + 1) := List.drop_eq_getElem_cons hp
  rw [hd, hs, gm_cons (hx hp).1]
  simp [(hx hp).2.1, (hx hp).2.2]
 ·
  rw [List.drop_eq_nil_of_le (by omega), hs, gm_nil]; rfl
theorem GI_fail {P S : List UInt8} {p i k : Nat} (h : GI P S p i (-1) k) (hi : i < S.length) (hx : ∀ hp : p < P.length, P[p] ≠ 42 ∧ P[p] ≠ 63 ∧ P[p] ≠ S[i]) : gm P S = false := by
 obtain ⟨h1, h2, h3, h4⟩ := h
 rcases h4 with ⟨_, h⟩ | ⟨a, hq, _⟩
 ·
  rw [h, gm_stuck hi hx]
 ·
  omega
theorem GI_back {P S : List UInt8} {p i k a : Nat} (h : GI P S p i (a : Int) k) (hi : i < S.length) (hx : ∀ hp : p < P.length, P[p] ≠ 42 ∧ P[p] ≠ 63 ∧ P[p] ≠ S[i]) : GI P S (a + 1) (k + 1) a (k + 1) := by
 obtain ⟨h1, h2, h3, h4⟩ := h
 rcases h4 with ⟨hq, _⟩ | ⟨b, hq, ha, g, t, hm, e1, e2, h⟩
 ·
  omega
 ·
  have hb : b = a := by omega
  subst hb
  refine ⟨by omega, by omega, Nat.le_refl _, .inr ⟨b, rfl, by omega, [], [], trivial, rfl, rfl, ?_⟩⟩
  have hk : S.drop k = S[k]'(by omega) :: S.drop (k + 1) := List.drop_eq_getElem_cons (by omega)
  have hno : gm (P.drop (b + 1)) (S.drop k) = false := by rw [e1, e2, mt_gm hm, gm_stuck hi hx]
  rw [h, hk, star, ← hk, hno, Bool.false_or]
theorem GI_end {P S : List UInt8} {p i k : Nat} {q : Int} (h : GI P S p i q k) (hi : S.length ≤ i) : gm P S = (P.drop p).all (· == 42) := by
 obtain ⟨h1, h2, h3, h4⟩ := h
 have hs : S.drop i = [] := List.drop_eq_nil_of_le hi
 rcases h4 with ⟨_, h⟩ | ⟨a, _, _, g, t, hm, e1, e2, h⟩
 ·
  rw [h, hs, gm_end]
 ·
  rw [hs, List.append_nil] at e2
  rw [h, e1, e2, mt_done hm, gm_end]
theorem dw_all (f : UInt8 → Bool) (l : List UInt8) : (l.dropWhile f).all f = l.all f := by
 induction l with
 | nil => rfl
 | cons c l ih => cases h : f c <;> simp [h, ih]
theorem dw_nil (f : UInt8 → Bool) (l : List UInt8) : l.dropWhile f = [] ↔ l.all f = true := by
 induction l with
 | nil => simp
 | cons c l ih => cases h : f c <;> simp [h, ih]
/-- What is cut off at both ends is all of it where it is stars alone. -/
theorem trim_nil (r : List UInt8) : Lib.trimB r 42 = [] ↔ r.all (· == 42) = true := by
 unfold Lib.trimB Lib.trimLeftB Lib.trimRightB
 rw [dw_nil, List.all_reverse, dw_all, List.all_reverse]
end Go.Proofs.YtjgckfcocmhnhaaGreatDoor.Lb
namespace Go.Proofs
open Go.Shelf
def Tryz.lays160_ren : Go.Shelf.Ren := ⟨fun | 160 => 137 | 232 => 142 | 231 => 141 | 227 => 143 | 234 => 145 | 233 => 144 | 236 => 147 | 235 => 146 | 228 => 153 | 271 => 156 | 151 => 155 | 197 => 154 | 120 => 161 | 152 => 160 | 260 => 159 | 137 => 162 | 119 => 163 | 224 => 150 | 225 => 149 | 217 => 148 | 266 => 157 | n => n, fun | 9 => 9 | 4 => 4 | 3 => 3 | 5 => 5 | 117 => 172 | 116 => 171 | 0 => 0 | 124 => 175 | 21 => 21 | 105 => 177 | 46 => 147 | 119 => 184 | 139 => 187 | 138 => 186 | n => n, fun | 3 => 3 | 4 => 4 | n => n⟩
theorem Tryz.lays160 : Go.Proofs.Lays.n160 Tryz.prog Tryz.lays160_ren := {
 mixed := by kernel_rfl
 f119 := Tryz.func163.trans (congrArg some (by kernel_rfl))
 f120 := Tryz.func161.trans (congrArg some (by kernel_rfl))
 f137 := Tryz.func162.trans (congrArg some (by kernel_rfl))
 f151 := Tryz.func155.trans (congrArg some (by kernel_rfl))
 f152 := Tryz.func160.trans (congrArg some (by kernel_rfl))
 f160 := Tryz.func137.trans (congrArg some (by kernel_rfl))
 f197 := Tryz.func154.trans (congrArg some (by kernel_rfl))
 f217 := Tryz.func148.trans (congrArg some (by kernel_rfl))
 f224 := Tryz.func150.trans (congrArg some (by kernel_rfl))
 f225 := Tryz.func149.trans (congrArg some (by kernel_rfl))
 f227 := Tryz.func143.trans (congrArg some (by kernel_rfl))
 f228 := Tryz.func153.trans (congrArg some (by kernel_rfl))
 f231 := Tryz.func141.trans (congrArg some (by kernel_rfl))
 f232 := Tryz.func142.trans (congrArg some (by kernel_rfl))
 f233 := Tryz.func144.trans (congrArg some (by kernel_rfl))
 f234 := Tryz.func145.trans (congrArg some (by kernel_rfl))
 f235 := Tryz.func146.trans (congrArg some (by kernel_rfl))
 f236 := Tryz.func147.trans (congrArg some (by kernel_rfl))
 f260 := Tryz.func159.trans (congrArg some (by kernel_rfl))
 f266 := Tryz.func157.trans (congrArg some (by kernel_rfl))
 f271 := Tryz.func156.trans (congrArg some (by kernel_rfl))
 t0 := Tryz.underlying0
 a0 := Tryz.isAgg0
 z0 := Tryz.sizeOf0
 v0 := Tryz.zeroValue0
 t3 := Tryz.underlying3
 a3 := Tryz.isAgg3
 z3 := Tryz.sizeOf3
 v3 := Tryz.zeroValue3
 t4 := Tryz.underlying4
 a4 := Tryz.isAgg4
 z4 := Tryz.sizeOf4
 v4 := Tryz.zeroValue4
 t5 := Tryz.underlying5
 a5 := Tryz.isAgg5
 z5 := Tryz.sizeOf5
 v5 := Tryz.zeroValue5
 t9 := Tryz.underlying9
 a9 := Tryz.isAgg9
 z9 := Tryz.sizeOf9
 v9 := Tryz.zeroValue9
 t21 := Tryz.underlying21
 a21 := Tryz.isAgg21
 z21 := Tryz.sizeOf21
 v21 := Tryz.zeroValue21
 t46 := Tryz.underlying147
 a46 := Tryz.isAgg147
 z46 := Tryz.sizeOf147
 v46 := Tryz.zeroValue147
 t105 := Tryz.underlying177
 a105 := Tryz.isAgg177
 z105 := Tryz.sizeOf177
 v105 := Tryz.zeroValue177
 t116 := Tryz.underlying171
 a116 := Tryz.isAgg171
 z116 := Tryz.sizeOf171
 t117 := Tryz.underlying172
 a117 := Tryz.isAgg172
 z117 := Tryz.sizeOf172
 v117 := Tryz.zeroValue172
 t119 := Tryz.underlying184
 a119 := Tryz.isAgg184
 z119 := Tryz.sizeOf184
 t124 := Tryz.underlying175
 a124 := Tryz.isAgg175
 z124 := Tryz.sizeOf175
 v124 := Tryz.zeroValue175
 t138 := Tryz.underlying186
 a138 := Tryz.isAgg186
 z138 := Tryz.sizeOf186
 v138 := Tryz.zeroValue186
 t139 := Tryz.underlying187
 a139 := Tryz.isAgg187
 z139 := Tryz.sizeOf187
 v139 := Tryz.zeroValue187
 g3 := by kernel_rfl
 g4 := by kernel_rfl }
open Go.RowKit in
/-- strings.Trim: "Trim returns a slice of the string s with all leading and trailing Unicode code points contained in cutset removed.": AT A cutset OF ONE ASCII BYTE. THE WORLD BEHIND IT: as it was, or (where s is not empty) with ONE DRAW MORE off the tape: the statement 'return trimLeftByte(trimRightByte(s, c), c)' draws its order of evaluation. (LAID: no walk: one application.) -/
theorem Tryz.strings_Trim_one (s : ByteArray) (c : UInt8) (hc : c.toNat < 128) (w : World) (hs : s.size ≤ 9223372036854775807) :
  Calls Tryz.prog 137 #[.string s, .string ⟨#[c]⟩] w fun e w' => e = .returned (.string ⟨(Lib.trimB s.data.toList c).toArray⟩) ∧ (w' = w ∨ w' = w.drew) := Any.strings_Trim_one Tryz.lays160 s c hc w hs
def Tryz.lays99_ren : Go.Shelf.Ren := ⟨fun | 99 => 121 | 206 => 136 | n => n, fun | 9 => 9 | 4 => 4 | 3 => 3 | n => n, fun | n => n⟩
theorem Tryz.lays99 : Go.Proofs.Lays.n99 Tryz.prog Tryz.lays99_ren := {
 mixed := by kernel_rfl
 f99 := Tryz.func121.trans (congrArg some (by kernel_rfl))
 f206 := Tryz.func136.trans (congrArg some (by kernel_rfl))
 t3 := Tryz.underlying3
 a3 := Tryz.isAgg3
 z3 := Tryz.sizeOf3
 v3 := Tryz.zeroValue3
 t4 := Tryz.underlying4
 a4 := Tryz.isAgg4
 z4 := Tryz.sizeOf4
 v4 := Tryz.zeroValue4
 t9 := Tryz.underlying9
 a9 := Tryz.isAgg9
 z9 := Tryz.sizeOf9
 v9 := Tryz.zeroValue9 }
open Go.RowKit Go.Lib in
/-- strings.HasPrefix: "HasPrefix reports whether the string s begins with prefix.": IT RETURNS 'Lib.hasPrefix s prefix'; the world is as it was. (LAID: no walk: one application.) -/
theorem Tryz.strings_HasPrefix (s p : ByteArray) (w : World) :
  Calls Tryz.prog 121 #[.string s, .string p] w fun e w' => e = .returned (.bool (Lib.hasPrefix s.data.toList p.data.toList)) ∧ w' = w := Any.strings_HasPrefix Tryz.lays99 s p w
end Go.Proofs
namespace Go.Proofs.YtjgckfcocmhnhaaGreatDoor.Lb
open Go.RowKit
theorem below_drewN0 {B : Nat} {a w : World} (h : Below B a w) (k : Nat) : Below B a (w.drewN k) := ⟨h.os, h.tape, h.output, h.size, h.block⟩
theorem trimStar_any (r : Str) (w : World) (hr : r.length ≤ 9223372036854775807) :
  Calls Tryz.prog 137 #[tx r, .string ⟨#[42]⟩] w fun e w' => e = .returned (tx (Lib.trimB r 42)) ∧ Below w.heap.size w w' := by
 refine (Tryz.strings_Trim_one ⟨r.toArray⟩ 42 (by decide) w (by rw [ba_size]; exact hr)).mono ?_
 rintro e w' ⟨rfl, h | h⟩
 ·
  subst h; exact ⟨rfl, Below.refl _ _⟩
 ·
  subst h; exact ⟨rfl, (Below.refl _ _).drew⟩
theorem byte_eq {a b : UInt8} : ((a.toNat : Int) == (b.toNat : Int)) = (a == b) := by
 rw [Bool.eq_iff_iff, beq_iff_eq, beq_iff_eq]
 constructor
 ·
  intro h; exact UInt8.toNat_inj.1 (by omega)
 ·
  intro h; rw [h]
theorem cut_from (P : Str) (p : Nat) : (⟨P.toArray⟩ : ByteArray).extract p P.length = ⟨(P.drop p).toArray⟩ := by
 rw [Lib.extract_eq]
 congr 2
 exact List.take_of_length_le (by simp)
/-- What is left of the search. -/
def gleft (n m p k : Nat) (q : Int) : Nat := ((n - q).toNat + (m - k)) * (n + 2) + (n - p)
theorem gleft_star {n m p k i : Nat} {q : Int} (h : q < p) (h2 : k ≤ i) (h3 : p < n) : gleft n m (p + 1) i p < gleft n m p k q := by
 unfold gleft
 have e1 : (n - (p : Int)).toNat + (m - i) + 1 ≤ (n - q).toNat + (m - k) := by omega
 have := Nat.mul_le_mul_right (n + 2) e1
 rw [Nat.add_mul] at this
 omega
theorem gleft_match {n m p k : Nat} {q : Int} (h : p < n) : gleft n m (p + 1) k q < gleft n m p k q := by
 unfold gleft; omega
theorem gleft_back {n m p k a : Nat} (h : k < m) : gleft n m (a + 1) (k + 1) a < gleft n m p k a := by
 unfold gleft
 have e1 : (n - (a : Int)).toNat + (m - (k + 1)) + 1 ≤ (n - (a : Int)).toNat + (m - k) := by omega
 have := Nat.mul_le_mul_right (n + 2) e1
 rw [Nat.add_mul] at this
 omega
set_option maxRecDepth 100000 in
set_option maxHeartbeats 2000000 in
theorem glob_any (P S : Str) (w : World) (hP : P.length ≤ 9223372036854775807) (hS : S.length ≤ 9223372036854775807) :
  Calls Tryz.prog 122 #[tx P, tx S] w fun e w' => e = .returned (.bool (gm P S)) ∧ Below w.heap.size w w' := by
 go_enter Tryz.func122, Tryz.ntmps122
 go_wp2_with fail
 go_loopw [5, 6, 7, 8] (fun a b c d wr => ∃ (p i k : Nat) (q : Int), a = .int .i64 p ∧ b = .int .i64 i ∧ c = .int .i64 q ∧ d = .int .i64 k ∧ p ≤ P.length ∧ i ≤ S.length ∧ k ≤ i ∧ -1 ≤ q ∧ q < p ∧ Hid (GI P S p i q k) ∧ Below w.heap.size w wr) (fun a b c d _ => gleft P.length S.length (intOf a).toNat (intOf d).toNat (intOf c))
 case atStart => exact ⟨0, 0, 0, -1, rfl, rfl, rfl, rfl, by omega, by omega, by omega, by omega, by omega, GI_start P S, Below.refl _ _⟩
 case round =>
  obtain ⟨p, i, k, q, rfl, rfl, rfl, rfl, hp, hi, hk, hq1, hq2, HG, hb⟩ := hrel
  by_cases hil : i < S.length
  ·
   have hbi := ba_lt hil
   by_cases hpl : p < P.length
   ·
    have hbp := ba_lt hpl
    have HC : Hid (P[p] = (⟨P.toArray⟩ : ByteArray)[p]'hbp) := rfl
    have HD : Hid (S[i] = (⟨S.toArray⟩ : ByteArray)[i]'hbi) := rfl
    have H1 : Hid (P[p] = 42 → GI P S (p + 1) i p i) := fun h => GI_star HG.out hpl h
    have H2 : Hid (P[p] ≠ 42 → P[p] = 63 ∨ P[p] = S[i] → GI P S (p + 1) (i + 1) q k) := fun h h' => GI_match HG.out hpl hil h h'
    have H3 : Hid (P[p] ≠ 42 ∧ P[p] ≠ 63 ∧ P[p] ≠ S[i] → q = -1 → gm P S = false) := fun h h' => by
     have := HG.out; rw [h'] at this; exact GI_fail this hil (fun _ => h)
    have H4 : Hid (P[p] ≠ 42 ∧ P[p] ≠ 63 ∧ P[p] ≠ S[i] → ∀ a : Nat, q = a → GI P S (a + 1) (k + 1) a (k + 1)) := fun h a h' => by
     have := HG.out; rw [h'] at this; exact GI_back this hil (fun _ => h)
    rw [HC.out] at H1
    rw [HC.out, HD.out] at H2 H3 H4
    clear HC HD HG
    by_cases c1 : (⟨P.toArray⟩ : ByteArray)[p]'hbp = 42
    ·
     have HR : Hid _ := H1.out c1
     have t1 : ((((⟨P.toArray⟩ : ByteArray)[p]'hbp).toNat : Int) == 42) = true := by rw [c1]; rfl
     clear H1 H2 H3 H4 c1
     go_wp2
     go_roundw
     case rel => exact ⟨p + 1, i, i, p, by go_num, rfl, rfl, rfl, by omega, by omega, by omega, by omega, by omega, HR, hb⟩
     case measure =>
      have e1 : ((p : Int) + 1).toNat = p + 1 := by omega
      simp only [intOf, Int.toNat_natCast, e1]
      exact gleft_star hq2 hk hpl
    ·
     have t1 : ((((⟨P.toArray⟩ : ByteArray)[p]'hbp).toNat : Int) == 42) = false := by
      have := @byte_eq ((⟨P.toArray⟩ : ByteArray)[p]'hbp) 42
      rw [show ((42 : UInt8).toNat : Int) = 42 from rfl] at this
      rw [this]; simpa using c1
     by_cases c2 : (⟨P.toArray⟩ : ByteArray)[p]'hbp = 63
     ·
      have t2 : ((((⟨P.toArray⟩ : ByteArray)[p]'hbp).toNat : Int) == 63) = true := by rw [c2]; rfl
      have HR : Hid _ := H2.out c1 (.inl c2)
      clear H1 H2 H3 H4 c1 c2
      go_wp2
      go_quiet (fail)
      go_wp2
      go_roundw
      case rel => exact ⟨p + 1, i + 1, k, q, by go_num, by go_num, rfl, rfl, by omega, by omega, by omega, by omega, by omega, HR, below_drewN0 hb _⟩
      case measure =>
       have e1 : ((p : Int) + 1).toNat = p + 1 := by omega
       simp only [intOf, Int.toNat_natCast, e1]
       exact gleft_match hpl
     ·
      have t2 : ((((⟨P.toArray⟩ : ByteArray)[p]'hbp).toNat : Int) == 63) = false := by
       have := @byte_eq ((⟨P.toArray⟩ : ByteArray)[p]'hbp) 63
       rw [show ((63 : UInt8).toNat : Int) = 63 from rfl] at this
       rw [this]; simpa using c2
      by_cases c3 : (⟨P.toArray⟩ : ByteArray)[p]'hbp = (⟨S.toArray⟩ : ByteArray)[i]'hbi
      ·
       have t3 : ((((⟨P.toArray⟩ : ByteArray)[p]'hbp).toNat : Int) == (((⟨S.toArray⟩ : ByteArray)[i]'hbi).toNat : Int)) = true := by rw [byte_eq]; simpa using c3
       have HR : Hid _ := H2.out c1 (.inr c3)
       clear H1 H2 H3 H4 c1 c2 c3
       go_wp2
       go_quiet (fail)
       go_wp2
       go_roundw
       case rel => exact ⟨p + 1, i + 1, k, q, by go_num, by go_num, rfl, rfl, by omega, by omega, by omega, by omega, by omega, HR, below_drewN0 hb _⟩
       case measure =>
        have e1 : ((p : Int) + 1).toNat = p + 1 := by omega
        simp only [intOf, Int.toNat_natCast, e1]
        exact gleft_match hpl
      ·
       have t3 : ((((⟨P.toArray⟩ : ByteArray)[p]'hbp).toNat : Int) == (((⟨S.toArray⟩ : ByteArray)[i]'hbi).toNat : Int)) = false := by rw [byte_eq]; simpa using c3
       by_cases hq : 0 ≤ q
       ·
        obtain ⟨a, rfl⟩ : ∃ a : Nat, q = a := ⟨q.toNat, by omega⟩
        have HR : Hid _ := H4.out ⟨c1, c2, c3⟩ a rfl
        clear H1 H2 H3 H4 c1 c2 c3
        go_wp2
        go_quiet (fail)
        go_wp2
        go_roundw
        case rel => exact ⟨a + 1, k + 1, k + 1, a, by go_num, by go_num, rfl, by go_num, by omega, by omega, by omega, by omega, by omega, HR, below_drewN0 hb _⟩
        case measure =>
         have e1 : ((a : Int) + 1).toNat = a + 1 := by omega
         have e2 : ((k : Int) + 1).toNat = k + 1 := by omega
         simp only [intOf, Int.toNat_natCast, e1, e2]
         exact gleft_back (by omega)
       ·
        have HR : Hid _ := H3.out ⟨c1, c2, c3⟩ (by omega)
        clear H1 H2 H3 H4 c1 c2 c3
        go_wp2
        go_quiet (fail)
        go_wp2
        go_ret
        exact ⟨by rw [HR.out]; rfl, below_drewN0 hb _⟩
   ·
    have hx : ∀ hp : p < P.length, P[p] ≠ 42 ∧ P[p] ≠ 63 ∧ P[p] ≠ S[i] := fun h => absurd h hpl
    by_cases hq : 0 ≤ q
    ·
     obtain ⟨a, rfl⟩ : ∃ a : Nat, q = a := ⟨q.toNat, by omega⟩
     have HR : Hid _ := GI_back HG.out hil hx
     clear HG hx
     go_wp2
     go_quiet (fail)
     go_wp2
     go_roundw
     case rel => exact ⟨a + 1, k + 1, k + 1, a, by go_num, by go_num, rfl, by go_num, by omega, by omega, by omega, by omega, by omega, HR, below_drewN0 hb _⟩
     case measure =>
      have e1 : ((a : Int) + 1).toNat = a + 1 := by omega
      have e2 : ((k : Int) + 1).toNat = k + 1 := by omega
      simp only [intOf, Int.toNat_natCast, e1, e2]
      exact gleft_back (by omega)
    ·
     have HR : Hid (gm P S = false) := by
      have := HG.out; rw [show q = -1 from by omega] at this; exact GI_fail this hil hx
     clear HG hx
     go_wp2
     go_quiet (fail)
     go_wp2
     go_ret
     exact ⟨by rw [HR.out]; rfl, below_drewN0 hb _⟩
  ·
   have HR : Hid (gm P S = (P.drop p).all (· == 42)) := GI_end HG.out (by omega)
   clear HG
   have hx : (⟨P.toArray⟩ : ByteArray).extract p P.length = ⟨(P.drop p).toArray⟩ := cut_from P p
   have hT : ∀ W, Calls Tryz.prog 137 #[.string ((⟨P.toArray⟩ : ByteArray).extract p P.length), .string ⟨#[42]⟩] W fun e w' => e = .returned (tx (Lib.trimB (P.drop p) 42)) ∧ Below W.heap.size W w' := fun W => by
    rw [hx]; exact trimStar_any (P.drop p) W (by rw [List.length_drop]; omega)
   have HB : Hid ((Lib.trimB (P.drop p) 42 == []) = gm P S) := by
    show _ = _
    rw [HR.out, Bool.eq_iff_iff, beq_iff_eq, trim_nil]
   clear hx HR
   generalize Lib.trimB (P.drop p) 42 = r at *
   go_wp2_with fail
   refine (hT _).mono ?_
   rintro e w1 ⟨rfl, hb1⟩
   have hb2 := Below.chain hb hb1
   clear hb hb1 hT
   cases hg : gm P S with
   | true =>
    rw [hg] at HB
    have h0 : (r == []) = true := HB.out
    go_wp2_with fail
    go_ret
    exact ⟨by rw [hg]; rfl, hb2⟩
   | false =>
    rw [hg] at HB
    have h0 : (r == []) = false := HB.out
    go_wp2_with fail
    go_ret
    exact ⟨by rw [hg]; rfl, hb2⟩
end Go.Proofs.YtjgckfcocmhnhaaGreatDoor.Lb
namespace Go.Proofs.YtjgckfcocmhnhaaGreatDoor.Lb
open Go.RowKit
def sameB (a b : List Pr) : Bool := decide (a = b)
theorem below_drewN {B : Nat} {a w : World} (h : Below B a w) (k : Nat) : Below B a (w.drewN k) := ⟨h.os, h.tape, h.output, h.size, h.block⟩
def bigP (p : Pr) : Bool := decide (100 < p.1.length) || decide (100 < p.2.length)
def bigB (l : List Pr) : Bool := l.any bigP || decide (20 < l.length)
end Go.Proofs.YtjgckfcocmhnhaaGreatDoor.Lb
namespace Go.Proofs
open Go.Shelf
def Tryz.lays106_ren : Go.Shelf.Ren := ⟨fun | 106 => 125 | 213 => 139 | 265 => 152 | n => n, fun | 9 => 9 | 3 => 3 | n => n, fun | n => n⟩
theorem Tryz.lays106 : Go.Proofs.Lays.n106 Tryz.prog Tryz.lays106_ren := {
 mixed := by kernel_rfl
 f106 := Tryz.func125.trans (congrArg some (by kernel_rfl))
 f213 := Tryz.func139.trans (congrArg some (by kernel_rfl))
 f265 := Tryz.func152.trans (congrArg some (by kernel_rfl))
 t3 := Tryz.underlying3
 a3 := Tryz.isAgg3
 z3 := Tryz.sizeOf3
 v3 := Tryz.zeroValue3
 t9 := Tryz.underlying9
 a9 := Tryz.isAgg9
 z9 := Tryz.sizeOf9
 v9 := Tryz.zeroValue9 }
open Go.RowKit in
/-- strings.Compare: "Compare returns an integer comparing two strings lexicographically. The result will be 0 if a == b, -1 if a < b, and +1 if a > b.": IT RETURNS 'Lib.compareBytes a b'; the world is as it was. (LAID: no walk: one application.) -/
theorem Tryz.strings_Compare (a b : ByteArray) (w : World) :
  Calls Tryz.prog 125 #[.string a, .string b] w fun e w' => e = .returned (.int .i64 (Lib.compareBytes a.data.toList b.data.toList)) ∧ w' = w := Any.strings_Compare Tryz.lays106 a b w
def Tryz.lays144_ren : Go.Shelf.Ren := ⟨fun | 144 => 102 | 143 => 123 | 219 => 138 | 217 => 148 | 225 => 149 | 224 => 150 | 267 => 151 | 266 => 157 | 314 => 158 | n => n, fun | 9 => 9 | 4 => 4 | 3 => 3 | 5 => 5 | 46 => 147 | 146 => 181 | 51 => 180 | n => n, fun | 1 => 2 | n => n⟩
theorem Tryz.lays144 : Go.Proofs.Lays.n144 Tryz.prog Tryz.lays144_ren := {
 mixed := by kernel_rfl
 f143 := Tryz.func123.trans (congrArg some (by kernel_rfl))
 f144 := Tryz.func102.trans (congrArg some (by kernel_rfl))
 f217 := Tryz.func148.trans (congrArg some (by kernel_rfl))
 f219 := Tryz.func138.trans (congrArg some (by kernel_rfl))
 f224 := Tryz.func150.trans (congrArg some (by kernel_rfl))
 f225 := Tryz.func149.trans (congrArg some (by kernel_rfl))
 f266 := Tryz.func157.trans (congrArg some (by kernel_rfl))
 f267 := Tryz.func151.trans (congrArg some (by kernel_rfl))
 f314 := Tryz.func158.trans (congrArg some (by kernel_rfl))
 t3 := Tryz.underlying3
 a3 := Tryz.isAgg3
 z3 := Tryz.sizeOf3
 v3 := Tryz.zeroValue3
 t4 := Tryz.underlying4
 a4 := Tryz.isAgg4
 z4 := Tryz.sizeOf4
 v4 := Tryz.zeroValue4
 t5 := Tryz.underlying5
 a5 := Tryz.isAgg5
 z5 := Tryz.sizeOf5
 v5 := Tryz.zeroValue5
 t9 := Tryz.underlying9
 a9 := Tryz.isAgg9
 z9 := Tryz.sizeOf9
 v9 := Tryz.zeroValue9
 t46 := Tryz.underlying147
 a46 := Tryz.isAgg147
 z46 := Tryz.sizeOf147
 v46 := Tryz.zeroValue147
 t51 := Tryz.underlying180
 a51 := Tryz.isAgg180
 z51 := Tryz.sizeOf180
 v51 := Tryz.zeroValue180
 t146 := Tryz.underlying181
 a146 := Tryz.isAgg181
 z146 := Tryz.sizeOf181
 v146 := Tryz.zeroValue181
 g1 := by kernel_rfl }
open Go.RowKit Go.Lib in
/-- strings.Contains: "Contains reports whether substr is within s.": AT A substr OF ONE BYTE c: IT RETURNS 'decide (0 ≤ Lib.indexByte s c)'; the world is as it was. (LAID: no walk: one application.) -/
theorem Tryz.strings_Contains_one (s : ByteArray) (c : UInt8) (w : World) :
  Calls Tryz.prog 102 #[.string s, .string ⟨#[c]⟩] w fun e w' => e = .returned (.bool (decide (0 ≤ Lib.indexByte s.data.toList c))) ∧ w' = w := Any.strings_Contains_one Tryz.lays144 s c w
end Go.Proofs
namespace Go.Proofs.YtjgckfcocmhnhaaGreatDoor.Lb
open Go.RowKit
theorem quiet_eq {P : Program} {f : FuncId} {args : Array Value} {w : World} {n : Nat} {v : Value} (h : Calls P f args (w.drewN n) fun e w' => e = .returned v ∧ w.drewN n = w') : Calls P f args (w.drewN n) fun e w'' => e = .returned v ∧ ∃ m, w'' = w.drewN m :=
 h.mono fun _ _ ⟨he, hm⟩ => ⟨he, n, hm.symm⟩
theorem byte_in (l : Str) (c : UInt8) : decide (0 ≤ Lib.indexByte l c) = l.contains c := by
 induction l with
 | nil => rfl
 | cons x l ih =>
  rw [Lib.indexByte, List.contains_cons]
  by_cases h : x = c
  ·
   subst h; simp
  ·
   have h' : ¬ c = x := fun e => h e.symm
   have hge : -1 ≤ Lib.indexByte l c := by
    clear ih
    induction l with
    | nil => simp [Lib.indexByte]
    | cons y l ih =>
     rw [Lib.indexByte]
     split
     ·
      omega
     ·
      split <;> omega
   rw [← ih]
   by_cases h2 : Lib.indexByte l c = -1
   ·
    simp [h, h', h2]
   ·
    have h3 : (Lib.indexByte l c == -1) = false := by simpa using h2
    have h4 : (x == c) = false := by simpa using h
    have h5 : (c == x) = false := by simpa using h'
    rw [h3, h4, h5, if_neg (by simp), if_neg (by simp), Bool.false_or, decide_eq_decide]
    omega
theorem contains_any (s : Str) (w : World) : Calls Tryz.prog 102 #[tx s, .string ⟨#[10]⟩] w fun e w' => e = .returned (.bool (s.contains 10)) ∧ w = w' := by
 refine (Tryz.strings_Contains_one ⟨s.toArray⟩ 10 w).mono ?_
 rintro e w' ⟨rfl, rfl⟩
 exact ⟨by rw [← byte_in], rfl⟩
theorem isValue_any (s : Str) (w : World) (hl : s.length ≤ 9223372036854775807) : Calls Tryz.prog 63 #[tx s] w fun e w' => e = .returned (.bool (fVal s)) ∧ w = w' := by
 have hc := contains_any s
 unfold fVal
 by_cases h1 : 1 ≤ s.length
 ·
  have h1' : (1 : Int) ≤ s.length := by omega
  by_cases h2 : s.length ≤ 30
  ·
   have h2' : (s.length : Int) ≤ 30 := by omega
   generalize s.contains 10 = r at *
   go_enter Tryz.func63, Tryz.ntmps63
   go_wp2_with (go_at_call 102; refine (hc _).mono ?_; rintro e w' ⟨rfl, rfl⟩)
   go_ret
   exact ⟨by simp [h1, h2], rfl⟩
  ·
   have h2' : ¬ (s.length : Int) ≤ 30 := by omega
   go_enter Tryz.func63, Tryz.ntmps63
   go_wp2
   go_ret
   exact ⟨by simp, rfl⟩
 ·
  have h1' : ¬ (1 : Int) ≤ s.length := by omega
  go_enter Tryz.func63, Tryz.ntmps63
  go_wp2
  go_ret
  exact ⟨by simp, rfl⟩
theorem is_not {l : List Pr} {j : Nat} (hj : j < l.length) (h : okAt l j = false) : fIs l = false := by
 cases hi : fIs l with
 | false => rfl
 | true =>
  unfold fIs at hi
  rw [Bool.and_eq_true] at hi
  rw [List.all_eq_true.1 hi.2 j (List.mem_range.2 hj)] at h
  cases h
theorem is_all {l : List Pr} (h8 : l.length ≤ 8) (h : ∀ i, i < l.length → okAt l i = true) : fIs l = true := by
 unfold fIs
 rw [Bool.and_eq_true]
 exact ⟨decide_eq_true h8, List.all_eq_true.2 fun i hi => h i (List.mem_range.1 hi)⟩
set_option maxHeartbeats 2000000 in
theorem is_any (xa : Option Addr) (n c : Nat) (l : List Pr) (w : World) (hn : n ≤ 9223372036854775807) (hf : Fit l) (hx : Ps w xa n l) :
  Calls Tryz.prog 31 #[.slice xa n c] w fun e w' => e = .returned (.bool (fIs l)) ∧ Below w.heap.size w w' := by
 obtain ⟨hla, hca⟩ := hx
 have HA : Hid (l.length = n) := hla
 clear hla
 by_cases h8 : n ≤ 8
 ·
  have h8' : ¬ (8 : Int) < n := by omega
  go_enter Tryz.func31, Tryz.ntmps31
  go_wp2
  go_loopw [10] (fun i wr => ∃ j : Nat, j ≤ n ∧ i = .int .i64 j ∧ Hid (∀ i, i < j → okAt l i = true) ∧ Below w.heap.size w wr) (fun i _ => n - (intOf i).toNat)
  case atStart => exact ⟨0, by omega, rfl, fun i h => by omega, Below.refl _ _⟩
  case round =>
   obtain ⟨j, hj, rfl, ht, hb⟩ := hrel
   by_cases hlt : j < n
   ·
    obtain ⟨b1, o1, rfl, h1⟩ := hca (by omega)
    obtain ⟨c10, c11⟩ := h1 j hlt
    have k0 := (hb.cell (p := ⟨b1, o1 + j * 2, none⟩) (World.block_lt_of_cell? _ _ c10)).trans c10
    have k1 := (hb.cell (p := ⟨b1, o1 + j * 2 + 1, none⟩) (World.block_lt_of_cell? _ _ c11)).trans c11
    have HN : Hid (okAt l j = true → ∀ i, i < j + 1 → okAt l i = true) := fun h i hi => by
     by_cases e : i = j
     ·
      rw [e]; exact h
     ·
      exact ht.out i (by omega)
    have HF : Hid (okAt l j = false → fIs l = false) := is_not (by rw [HA.out]; exact hlt)
    have hfa := hf.at j
    have hnm := fun w => name_any (l.getD j ([], [])).1 w hfa.1
    have hvl := fun w => isValue_any (l.getD j ([], [])).2 w hfa.2
    have HO : Hid (okAt l j = (fName (l.getD j ([], [])).1 && fVal (l.getD j ([], [])).2 && (decide (j = 0) || decide ((l.getD (j - 1) ([], [])).1 < (l.getD j ([], [])).1)))) := rfl
    have hb1 : ∀ o, Below w.heap.size w (wr.alloc o) := bal hb
    clear hfa
    by_cases h0 : j = 0
    ·
     have h0' : ¬ (0 : Int) < j := by omega
     have h0d : decide (0 < j) = false := decide_eq_false (by omega)
     have HO' : Hid (okAt l j = (fName (l.getD j ([], [])).1 && fVal (l.getD j ([], [])).2)) := by
      show _ = _
      rw [HO.out, h0]; simp
     clear h1 hca c10 c11 HO
     generalize okAt l j = ok at *
     generalize l.getD j ([], []) = p at *
     obtain ⟨p1, p2⟩ := p
     dsimp only at *
     cases hN : fName p1 with
     | false =>
      have HR : Hid (fIs l = false) := HF.out (by rw [HO'.out, hN]; rfl)
      rw [hN] at hnm
      clear HO' HF HN hN h0
      go_wp2
      go_quiet ((first | (go_at_call 62; exact quiet_eq (hnm _)) | (go_at_call 63; exact quiet_eq (hvl _))))
      go_wp2
      go_ret
      exact ⟨by rw [HR.out]; rfl, below_drewN (hb1 _) _⟩
     | true =>
      rw [hN] at hnm
      cases hV : fVal p2 with
      | false =>
       have HR : Hid (fIs l = false) := HF.out (by rw [HO'.out, hN, hV]; rfl)
       rw [hV] at hvl
       clear HO' HF HN hN hV h0
       go_wp2
       go_quiet ((first | (go_at_call 62; exact quiet_eq (hnm _)) | (go_at_call 63; exact quiet_eq (hvl _))))
       go_wp2
       go_ret
       exact ⟨by rw [HR.out]; rfl, below_drewN (hb1 _) _⟩
      | true =>
       have HR : Hid (∀ i, i < j + 1 → okAt l i = true) := HN.out (by rw [HO'.out, hN, hV]; rfl)
       rw [hV] at hvl
       clear HO' HF HN hN hV h0
       go_wp2
       go_quiet ((first | (go_at_call 62; exact quiet_eq (hnm _)) | (go_at_call 63; exact quiet_eq (hvl _))))
       go_wp2
       go_roundw
       case rel => exact ⟨j + 1, by omega, by go_num, HR, below_drewN (hb1 _) _⟩
       case measure => simp [intOf]; omega
    ·
     obtain ⟨k, rfl⟩ : ∃ k, j = k + 1 := ⟨j - 1, by omega⟩
     obtain ⟨c00, _⟩ := h1 k (by omega)
     have kk := (hb.cell (p := ⟨b1, o1 + k * 2, none⟩) (World.block_lt_of_cell? _ _ c00)).trans c00
     have kn : ∀ o, (wr.alloc o).cell? ⟨b1, o1 + k * 2, none⟩ = some (tx (l.getD k ([], [])).1) := fun o => ((bal (Below.refl _ wr) o).cell (p := ⟨b1, o1 + k * 2, none⟩) (World.block_lt_of_cell? _ _ kk)).trans kk
     have HO' : Hid (okAt l (k + 1) = (fName (l.getD (k + 1) ([], [])).1 && fVal (l.getD (k + 1) ([], [])).2 && decide ((l.getD k ([], [])).1 < (l.getD (k + 1) ([], [])).1))) := by
      show _ = _
      rw [HO.out]; simp
     have h0d : decide ((0 : Int) < ((k + 1 : Nat) : Int)) = true := decide_eq_true (by omega)
     have hlss := less_eq (l.getD k ([], [])).1 (l.getD (k + 1) ([], [])).1
     clear h1 hca c10 c11 HO c00 kk
     generalize okAt l (k + 1) = ok at *
     generalize l.getD (k + 1) ([], []) = p at *
     generalize l.getD k ([], []) = q at *
     obtain ⟨p1, p2⟩ := p
     obtain ⟨q1, q2⟩ := q
     dsimp only at *
     cases hN : fName p1 with
     | false =>
      have HR : Hid (fIs l = false) := HF.out (by rw [HO'.out, hN]; rfl)
      rw [hN] at hnm
      clear HO' HF HN hN h0 hlss
      go_wp2
      go_quiet ((first | (go_at_call 62; exact quiet_eq (hnm _)) | (go_at_call 63; exact quiet_eq (hvl _))))
      go_wp2
      go_ret
      exact ⟨by rw [HR.out]; rfl, below_drewN (hb1 _) _⟩
     | true =>
      rw [hN] at hnm
      cases hV : fVal p2 with
      | false =>
       have HR : Hid (fIs l = false) := HF.out (by rw [HO'.out, hN, hV]; rfl)
       rw [hV] at hvl
       clear HO' HF HN hN hV h0 hlss
       go_wp2
       go_quiet ((first | (go_at_call 62; exact quiet_eq (hnm _)) | (go_at_call 63; exact quiet_eq (hvl _))))
       go_wp2
       go_ret
       exact ⟨by rw [HR.out]; rfl, below_drewN (hb1 _) _⟩
      | true =>
       rw [hV] at hvl
       by_cases hq : q1 < p1
       ·
        have HR : Hid (∀ i, i < k + 1 + 1 → okAt l i = true) := HN.out (by rw [HO'.out, hN, hV]; simpa using hq)
        rw [decide_eq_true hq] at hlss
        clear HO' HF HN hN hV h0 hq
        go_wp2
        go_quiet ((first | (go_at_call 62; exact quiet_eq (hnm _)) | (go_at_call 63; exact quiet_eq (hvl _))))
        go_wp2
        go_roundw
        case rel => exact ⟨k + 1 + 1, by omega, by go_num, HR, below_drewN (hb1 _) _⟩
        case measure => simp [intOf]; omega
       ·
        have HR : Hid (fIs l = false) := HF.out (by rw [HO'.out, hN, hV]; simpa using hq)
        rw [decide_eq_false hq] at hlss
        clear HO' HF HN hN hV h0 hq
        go_wp2
        go_quiet ((first | (go_at_call 62; exact quiet_eq (hnm _)) | (go_at_call 63; exact quiet_eq (hvl _))))
        go_wp2
        go_ret
        exact ⟨by rw [HR.out]; rfl, below_drewN (hb1 _) _⟩
   ·
    have HT' : Hid (fIs l = true) := is_all (by rw [HA.out]; omega) (fun i hi => ht.out i (by rw [HA.out] at hi; omega))
    go_wp2
    go_ret
    exact ⟨by rw [HT'.out]; rfl, hb⟩
 ·
  have h8' : (8 : Int) < n := by omega
  have HT' : Hid (fIs l = false) := by
   show _ = _
   unfold fIs
   rw [decide_eq_false (by rw [HA.out]; omega)]
   rfl
  go_enter Tryz.func31, Tryz.ntmps31
  go_wp2
  go_ret
  exact ⟨by rw [HT'.out]; rfl, Below.refl _ _⟩
end Go.Proofs.YtjgckfcocmhnhaaGreatDoor.Lb
namespace Go.Proofs.YtjgckfcocmhnhaaGreatDoor.Lb
open Go.RowKit
/-- A matcher: name, kind, text. -/
structure Mat where
 name : Str
 kind : Int
 text : Str
abbrev av (m : Mat) : Value := .agg #[tx m.name, .int .i64 m.kind, tx m.text]
def hasB (p s : Str) : Bool := p.isPrefixOf s
/-- Does the value match? -/
def fOne (m : Mat) (v : Str) : Bool :=
 if m.kind = 1 then v == m.text else if m.kind = 2 then !(v == m.text) else if m.kind = 3 then hasB m.text v else if m.kind = 4 then gm m.text v else false
def Big (s : Str) : Prop := s.length ≤ 9223372036854775807
theorem hasPrefix_any (s p : Str) (w : World) : Calls Tryz.prog 121 #[tx s, tx p] w fun e w' => e = .returned (.bool (hasB p s)) ∧ w = w' := by
 refine (Tryz.strings_HasPrefix ⟨s.toArray⟩ ⟨p.toArray⟩ w).mono ?_
 rintro e w' ⟨rfl, rfl⟩
 exact ⟨rfl, rfl⟩
set_option maxHeartbeats 1000000 in
theorem one_any (m : Mat) (v : Str) (w : World) (hv : Big v) (hm : Big m.text) :
  Calls Tryz.prog 97 #[av m, tx v] w fun e w' => e = .returned (.bool (fOne m v)) ∧ Below w.heap.size w w' := by
 have hpre := hasPrefix_any v m.text
 have hglob := fun W => glob_any m.text v W hm hv
 unfold fOne
 obtain ⟨n, k, t⟩ := m
 dsimp only at *
 have hb0 : ∀ o, Below w.heap.size w (w.alloc o) := bal (Below.refl _ _)
 by_cases h1 : k = 1
 ·
  subst h1
  cases he : v == t <;> (
   go_enter Tryz.func97, Tryz.ntmps97
   go_wp2_with fail
   go_ret
   exact ⟨by simp, hb0 _⟩)
 ·
  have t1 : (k == 1) = false := by simpa using h1
  by_cases h2 : k = 2
  ·
   subst h2
   cases he : v == t with
   | true =>
    have he' : (v != t) = false := by rw [bne, he]; rfl
    go_enter Tryz.func97, Tryz.ntmps97
    go_wp2_with fail
    go_ret
    exact ⟨by simp, hb0 _⟩
   | false =>
    have he' : (v != t) = true := by rw [bne, he]; rfl
    go_enter Tryz.func97, Tryz.ntmps97
    go_wp2_with fail
    go_ret
    exact ⟨by simp, hb0 _⟩
  ·
   have t2 : (k == 2) = false := by simpa using h2
   by_cases h3 : k = 3
   ·
    subst h3
    generalize hasB t v = r at *
    go_enter Tryz.func97, Tryz.ntmps97
    go_wp2_with fail
    refine (hpre _).mono ?_
    rintro e w1 ⟨rfl, rfl⟩
    go_wp2_with fail
    go_ret
    exact ⟨by simp, hb0 _⟩
   ·
    have t3 : (k == 3) = false := by simpa using h3
    by_cases h4 : k = 4
    ·
     subst h4
     generalize gm t v = r at *
     go_enter Tryz.func97, Tryz.ntmps97
     go_wp2_with fail
     refine (hglob _).mono ?_
     rintro e w1 ⟨rfl, hb1⟩
     go_wp2_with fail
     go_ret
     exact ⟨by simp, Below.chain (hb0 _) hb1⟩
    ·
     have t4 : (k == 4) = false := by simpa using h4
     go_enter Tryz.func97, Tryz.ntmps97
     go_wp2_with fail
     go_ret
     exact ⟨by simp, hb0 _⟩
/-! ### Is -/
def fKind (k : Int) : Bool := decide (1 ≤ k) && decide (k ≤ 4)
def fMat (m : Mat) : Bool := fName m.name && fKind m.kind && decide (m.text.length ≤ 30) && !m.text.contains 10
end Go.Proofs.YtjgckfcocmhnhaaGreatDoor.Lb
namespace Go.Proofs.YtjgckfcocmhnhaaGreatDoor.Lb
open Go.RowKit
theorem take_at {P : Program} {ops : Array Oper} {Q : Exit → Act → World → Prop} {md : Region.Mode} {S : World → Prop} (i : Nat) (d : Option Tmp) (v : Value) {oi : Oper} {fuel : Nat} {listed : Array Bool} {a : Act} {w : World} (hi : ops[i]? = some oi) (hd : oi.dst = d)
  (hs : Region.noSelect ops = true) (hf : Region.free md ops listed i = true) (hr : (Region.ready md ops listed).contains i = true)
  (hQ : ∀ c a w, Q (.panic c) (a.put oi.dst v) w → Q (.panic c) a w) (hw : Region.wanted oi (yielded ops a.tmps) = true) (hy : ∀ w, S w → (execOp a.eval oi).run P w = .ok (.value v) w) (hS : S w)
  (h : wpAnyH P md ops Q S fuel (listed.setIfInBounds i true) (a.put d v) w) : wpAnyH P md ops Q S (fuel + 1) listed a w := by
 subst hd
 exact wpAnyH_take hi hs hf hr hQ (Or.inl ⟨hw, hy⟩) hS h
theorem skip_at {P : Program} {ops : Array Oper} {Q : Exit → Act → World → Prop} {md : Region.Mode} {S : World → Prop} (i : Nat) (d : Option Tmp) {oi : Oper} {fuel : Nat} {listed : Array Bool} {a : Act} {w : World} (hi : ops[i]? = some oi) (hd : oi.dst = d)
  (hs : Region.noSelect ops = true) (hf : Region.free md ops listed i = true) (hr : (Region.ready md ops listed).contains i = true)
  (hQ : ∀ c a w, Q (.panic c) (a.put oi.dst undef) w → Q (.panic c) a w) (hw : Region.wanted oi (yielded ops a.tmps) = false) (hS : S w)
  (h : wpAnyH P md ops Q S fuel (listed.setIfInBounds i true) (a.put d undef) w) : wpAnyH P md ops Q S (fuel + 1) listed a w := by
 subst hd
 exact wpAnyH_take hi hs hf hr hQ (Or.inr ⟨hw, rfl⟩) hS h
end Go.Proofs.YtjgckfcocmhnhaaGreatDoor.Lb
namespace Go.Proofs.YtjgckfcocmhnhaaGreatDoor.Lb
open Go.RowKit
def mat0 : Mat := ⟨[], 0, []⟩
/-- A slice of matchers. -/
def Ms (w : World) (ao : Option Addr) (n : Nat) (l : List Mat) : Prop :=
 l.length = n ∧ (0 < n → ∃ b off, ao = some ⟨b, off, none⟩ ∧ ∀ j, j < n → w.cell? ⟨b, off + j * 3, none⟩ = some (tx (l.getD j mat0).name) ∧ w.cell? ⟨b, off + j * 3 + 1, none⟩ = some (.int .i64 (l.getD j mat0).kind) ∧ w.cell? ⟨b, off + j * 3 + 2, none⟩ = some (tx (l.getD j mat0).text))
theorem Ms.later {w w' : World} {ao : Option Addr} {n : Nat} {l : List Mat} (h : Ms w ao n l) (hb : Below w.heap.size w w') : Ms w' ao n l := by
 obtain ⟨h1, h4⟩ := h
 refine ⟨h1, fun hp => ?_⟩
 obtain ⟨b, off, e, hc⟩ := h4 hp
 exact ⟨b, off, e, fun j hj => ⟨(hb.cell (p := ⟨b, off + j * 3, none⟩) (World.block_lt_of_cell? _ _ (hc j hj).1)).trans (hc j hj).1, (hb.cell (p := ⟨b, off + j * 3 + 1, none⟩) (World.block_lt_of_cell? _ _ (hc j hj).2.1)).trans (hc j hj).2.1, (hb.cell (p := ⟨b, off + j * 3 + 2, none⟩) (World.block_lt_of_cell? _ _ (hc j hj).2.2)).trans (hc j hj).2.2⟩⟩
def FitM (l : List Mat) : Prop := ∀ m ∈ l, Big m.name ∧ Big m.text
theorem FitM.at {l : List Mat} (h : FitM l) (j : Nat) : Big (l.getD j mat0).name ∧ Big (l.getD j mat0).text := by
 by_cases hj : j < l.length
 ·
  rw [List.getD, List.getElem?_eq_getElem hj]
  exact h _ (List.getElem_mem hj)
 ·
  rw [List.getD, List.getElem?_eq_none (by omega)]
  simp [mat0, Big]
/-- A matcher that lies in a block of its own. -/
structure BoxM (w : World) (b : Nat) (m : Mat) : Prop where
 c0 : w.cell? ⟨b, 0, none⟩ = some (tx m.name)
 c1 : w.cell? ⟨b, 1, none⟩ = some (.int .i64 m.kind)
 c2 : w.cell? ⟨b, 2, none⟩ = some (tx m.text)
theorem BoxM.new (w : World) (m : Mat) : BoxM (w.alloc (.cells #[tx m.name, .int .i64 m.kind, tx m.text] 65)) w.heap.size m := by
 constructor <;> simp [go_sem]
theorem BoxM.later {w w' : World} {b : Nat} {m : Mat} (h : BoxM w b m) (hb : Below w.heap.size w w') : BoxM w' b m := by
 have hl : b < w.heap.size := World.block_lt_of_cell? _ _ h.c0
 exact ⟨(hb.cell (p := ⟨b, 0, none⟩) hl).trans h.c0, (hb.cell (p := ⟨b, 1, none⟩) hl).trans h.c1, (hb.cell (p := ⟨b, 2, none⟩) hl).trans h.c2⟩
def fAll (l : List Pr) (m : List Mat) : Bool := m.all fun x => fOne x (fGet l x.name)
theorem mat_at {l : List Mat} {k : Nat} (hk : k < l.length) : l.getD k mat0 = l[k] := by simp [List.getD, List.getElem?_eq_getElem hk]
theorem all_take {l : List Pr} {m : List Mat} {k : Nat} (hk : k < m.length) : fAll l (m.take (k + 1)) = (fAll l (m.take k) && fOne (m.getD k mat0) (fGet l (m.getD k mat0).name)) := by
 unfold fAll
 rw [List.take_succ_eq_append_getElem hk, List.all_append, mat_at hk]
 simp
theorem all_no {l : List Pr} {m : List Mat} {k : Nat} (hk : k < m.length) (h : fOne (m.getD k mat0) (fGet l (m.getD k mat0).name) = false) : fAll l m = false := by
 cases hd : fAll l m with
 | false => rfl
 | true =>
  unfold fAll at hd
  rw [mat_at hk] at h
  rw [List.all_eq_true.1 hd _ (List.getElem_mem hk)] at h; cases h
/-- Texts that can be told. -/
def FitP (l : List Pr) : Prop := ∀ p ∈ l, Big p.1 ∧ Big p.2
theorem get_bigP {l : List Pr} (h : FitP l) (n : Str) : Big (fGet l n) := by
 induction l with
 | nil => simp [get_nil, Big]
 | cons p l ih =>
  rw [get_cons]
  split
  ·
   exact (h p (by simp)).2
  ·
   exact ih fun q hq => h q (by simp [hq])
set_option maxHeartbeats 1000000 in
theorem all_any (ao : Option Addr) (n cap : Nat) (l : List Pr) (xo : Option Addr) (k c : Nat) (m : List Mat) (w : World) (hn : n ≤ 9223372036854775807) (hk : k ≤ 9223372036854775807) (hl : Ps w ao n l) (hm : Ms w xo k m) (hf : FitP l) (hg : FitM m) :
  Calls Tryz.prog 59 #[.slice ao n cap, .slice xo k c] w fun e w' => e = .returned (.bool (fAll l m)) ∧ Below w.heap.size w w' := by
 obtain ⟨hlen, hcell⟩ := hm
 have HL : Hid (m.length = k) := hlen
 clear hlen
 go_enter Tryz.func59, Tryz.ntmps59
 go_wp2
 go_loopw [9] (fun i wr => ∃ j : Nat, j ≤ k ∧ i = .int .i64 j ∧ Hid (fAll l (m.take j) = true) ∧ Below w.heap.size w wr) (fun i _ => k - (intOf i).toNat)
 case atStart => exact ⟨0, by omega, rfl, rfl, Below.refl _ _⟩
 case round =>
  obtain ⟨j, hj, rfl, ha, hb⟩ := hrel
  by_cases hlt : j < k
  ·
   obtain ⟨b, off, rfl, hc⟩ := hcell (by omega)
   obtain ⟨hc0, hc1, hc2⟩ := hc j hlt
   have k0 := (hb.cell (p := ⟨b, off + j * 3, none⟩) (World.block_lt_of_cell? _ _ hc0)).trans hc0
   have k1 := (hb.cell (p := ⟨b, off + j * 3 + 1, none⟩) (World.block_lt_of_cell? _ _ hc1)).trans hc1
   have k2 := (hb.cell (p := ⟨b, off + j * 3 + 2, none⟩) (World.block_lt_of_cell? _ _ hc2)).trans hc2
   have hlt' : j < m.length := by rw [HL.out]; exact hlt
   have HT : Hid _ := all_take (l := l) hlt'
   have HN : Hid _ := all_no (l := l) hlt'
   have hbig := hg.at j
   clear hc hcell hc0 hc1 hc2 hlt'
   have hb1 : ∀ o, Below w.heap.size w (wr.alloc o) := bal hb
   generalize m.getD j mat0 = x at *
   have hbx := BoxM.new wr x
   have hget : ∀ W, Below w.heap.size w W → Calls Tryz.prog 98 #[.slice ao n cap, tx x.name] W fun e w' => e = .returned (tx (fGet l x.name)) ∧ Below W.heap.size W w' := fun W hW => get_any ao n cap l x.name W hn (hl.later hW)
   have hone := fun W => one_any x (fGet l x.name) W (get_bigP hf _) hbig.2
   go_wp2_with fail
   have hb2 := hb1 (.cells #[.string ⟨x.name.toArray⟩, .int .i64 x.kind, .string ⟨x.text.toArray⟩] 65)
   generalize wr.alloc (.cells #[.string ⟨x.name.toArray⟩, .int .i64 x.kind, .string ⟨x.text.toArray⟩] 65) = w1 at *
   cases hv : fOne x (fGet l x.name) with
   | true =>
    rw [hv] at hone
    have HR : Hid (fAll l (m.take (j + 1)) = true) := by show _ = _; rw [HT.out, hv, ha.out]; rfl
    clear HT HN ha hv k0 k1 k2
    have C0 : Below w1.heap.size w1 w1.drew := (Below.refl _ _).drew
    refine wp_region_noPanic ?_
    refine wp_region_held_drew (S := fun W => Below w1.heap.size w1 W) (by kernel_rfl) ?_ (fun _ => ?_)
    ·
     exact C0
    generalize w1.drew = wd at *
    refine take_at 0 (some 13) (.agg #[tx x.name, .int .i64 x.kind, tx x.text]) rfl rfl (by kernel_rfl) (by kernel_rfl) (by kernel_rfl) (fun _ _ _ h => h) (by rfl) (fun W hSw => by have c0 := (hbx.later hSw).c0; have c1 := (hbx.later hSw).c1; have c2 := (hbx.later hSw).c2; go_simp) C0 ?_
    simp only [Act.put, List.setIfInBounds_toArray, List.set_cons_zero, List.set_cons_succ]
    refine take_at 1 (some 14) (.slice ao n cap) rfl rfl (by kernel_rfl) (by kernel_rfl) (by kernel_rfl) (fun _ _ _ h => h) (by rfl) (fun W hSw => by go_simp) C0 ?_
    simp only [Act.put, List.setIfInBounds_toArray, List.set_cons_zero, List.set_cons_succ]
    refine take_at 2 (some 15) (.pointer (some ⟨wr.heap.size, 0, none⟩)) rfl rfl (by kernel_rfl) (by kernel_rfl) (by kernel_rfl) (fun _ _ _ h => h) (by rfl) (fun W hSw => by go_simp) C0 ?_
    simp only [Act.put, List.setIfInBounds_toArray, List.set_cons_zero, List.set_cons_succ]
    refine take_at 3 (some 16) (tx x.name) rfl rfl (by kernel_rfl) (by kernel_rfl) (by kernel_rfl) (fun _ _ _ h => h) (by rfl) (fun W hSw => by have c0 := (hbx.later hSw).c0; have c1 := (hbx.later hSw).c1; have c2 := (hbx.later hSw).c2; go_simp) C0 ?_
    simp only [Act.put, List.setIfInBounds_toArray, List.set_cons_zero, List.set_cons_succ]
    refine wpAnyH_ready (rs := [4]) (by kernel_rfl) (by simp) ?_
    refine AllReadyH.cons rfl (fun K hK => ?_) AllReadyH.nil
    go_simp
    refine (hget _ (Below.chain hb2 C0)).mono ?_
    rintro e w5 ⟨rfl, hb5⟩
    have C5 := Below.chain C0 hb5
    refine hK.out _ _ ?_ (fun _ => ?_)
    ·
     exact C5
    clear hK K
    refine wpAnyH_ready (rs := [5]) (by kernel_rfl) (by simp) ?_
    refine AllReadyH.cons rfl (fun K hK => ?_) AllReadyH.nil
    go_simp
    refine (hone _).mono ?_
    rintro e w6 ⟨rfl, hb6⟩
    have C6 := Below.chain C5 hb6
    refine hK.out _ _ ?_ (fun _ => ?_)
    ·
     exact C6
    clear hK K
    refine take_at 6 (some 19) (.bool false) rfl rfl (by kernel_rfl) (by kernel_rfl) (by kernel_rfl) (fun _ _ _ h => h) (by rfl) (fun W hSw => by go_simp) C6 ?_
    simp only [Act.put, List.setIfInBounds_toArray, List.set_cons_zero, List.set_cons_succ]
    refine wpAnyH_done (by kernel_rfl) ?_ _
    refine NoPanic.normal ?_
    have C9 := Below.chain hb2 C6
    go_wp2_with fail
    go_roundw
    case rel => exact ⟨j + 1, by omega, by go_num, HR, C9⟩
    case measure => simp [intOf]; omega
   | false =>
    rw [hv] at hone
    have HR : Hid (fAll l m = false) := HN.out hv
    clear HT HN ha hv k0 k1 k2
    have C0 : Below w1.heap.size w1 w1.drew := (Below.refl _ _).drew
    refine wp_region_noPanic ?_
    refine wp_region_held_drew (S := fun W => Below w1.heap.size w1 W) (by kernel_rfl) ?_ (fun _ => ?_)
    ·
     exact C0
    generalize w1.drew = wd at *
    refine take_at 0 (some 13) (.agg #[tx x.name, .int .i64 x.kind, tx x.text]) rfl rfl (by kernel_rfl) (by kernel_rfl) (by kernel_rfl) (fun _ _ _ h => h) (by rfl) (fun W hSw => by have c0 := (hbx.later hSw).c0; have c1 := (hbx.later hSw).c1; have c2 := (hbx.later hSw).c2; go_simp) C0 ?_
    simp only [Act.put, List.setIfInBounds_toArray, List.set_cons_zero, List.set_cons_succ]
    refine take_at 1 (some 14) (.slice ao n cap) rfl rfl (by kernel_rfl) (by kernel_rfl) (by kernel_rfl) (fun _ _ _ h => h) (by rfl) (fun W hSw => by go_simp) C0 ?_
    simp only [Act.put, List.setIfInBounds_toArray, List.set_cons_zero, List.set_cons_succ]
    refine take_at 2 (some 15) (.pointer (some ⟨wr.heap.size, 0, none⟩)) rfl rfl (by kernel_rfl) (by kernel_rfl) (by kernel_rfl) (fun _ _ _ h => h) (by rfl) (fun W hSw => by go_simp) C0 ?_
    simp only [Act.put, List.setIfInBounds_toArray, List.set_cons_zero, List.set_cons_succ]
    refine take_at 3 (some 16) (tx x.name) rfl rfl (by kernel_rfl) (by kernel_rfl) (by kernel_rfl) (fun _ _ _ h => h) (by rfl) (fun W hSw => by have c0 := (hbx.later hSw).c0; have c1 := (hbx.later hSw).c1; have c2 := (hbx.later hSw).c2; go_simp) C0 ?_
    simp only [Act.put, List.setIfInBounds_toArray, List.set_cons_zero, List.set_cons_succ]
    refine wpAnyH_ready (rs := [4]) (by kernel_rfl) (by simp) ?_
    refine AllReadyH.cons rfl (fun K hK => ?_) AllReadyH.nil
    go_simp
    refine (hget _ (Below.chain hb2 C0)).mono ?_
    rintro e w5 ⟨rfl, hb5⟩
    have C5 := Below.chain C0 hb5
    refine hK.out _ _ ?_ (fun _ => ?_)
    ·
     exact C5
    clear hK K
    refine wpAnyH_ready (rs := [5]) (by kernel_rfl) (by simp) ?_
    refine AllReadyH.cons rfl (fun K hK => ?_) AllReadyH.nil
    go_simp
    refine (hone _).mono ?_
    rintro e w6 ⟨rfl, hb6⟩
    have C6 := Below.chain C5 hb6
    refine hK.out _ _ ?_ (fun _ => ?_)
    ·
     exact C6
    clear hK K
    refine take_at 6 (some 19) (.bool true) rfl rfl (by kernel_rfl) (by kernel_rfl) (by kernel_rfl) (fun _ _ _ h => h) (by rfl) (fun W hSw => by go_simp) C6 ?_
    simp only [Act.put, List.setIfInBounds_toArray, List.set_cons_zero, List.set_cons_succ]
    refine wpAnyH_done (by kernel_rfl) ?_ _
    refine NoPanic.normal ?_
    have C9 := Below.chain hb2 C6
    go_wp2_with fail
    go_ret
    exact ⟨by rw [HR.out]; rfl, C9⟩
  ·
   have HR : Hid (fAll l m = true) := by
    have := ha.out
    rw [List.take_of_length_le (by rw [HL.out]; omega)] at this
    exact this
   go_wp2_with fail
   go_ret
   exact ⟨by rw [HR.out]; rfl, hb⟩
end Go.Proofs.YtjgckfcocmhnhaaGreatDoor.Lb
namespace Go.Proofs.YtjgckfcocmhnhaaGreatDoor.Lb
open Go.RowKit Go.Shelf
theorem compare_any (a b : Str) (w : World) : Calls Tryz.prog 125 #[tx a, tx b] w fun e w' => e = .returned (.int .i64 (Lib.compareBytes a b)) ∧ w = w' := by
 refine (Tryz.strings_Compare ⟨a.toArray⟩ ⟨b.toArray⟩ w).mono ?_
 rintro e w' ⟨rfl, rfl⟩
 exact ⟨rfl, rfl⟩
theorem byName_any (p q : Pr) (w : World) : Calls Tryz.prog 124 #[.agg #[tx p.1, tx p.2], .agg #[tx q.1, tx q.2]] w fun e w' => e = .returned (.int .i64 (Lib.compareBytes p.1 q.1)) ∧ Below w.heap.size w w' := by
 have hc := compare_any p.1 q.1
 generalize Lib.compareBytes p.1 q.1 = r at hc ⊢
 go_enter Tryz.func124, Tryz.ntmps124
 go_wp2_with (go_at_call 125; refine (hc _).mono ?_; rintro e w' ⟨rfl, rfl⟩)
 go_ret
 exact ⟨rfl, bal (bal (Below.refl _ _) _) _⟩
set_option maxHeartbeats 1000000 in
theorem byPair_any (p q : Pr) (w : World) : Calls Tryz.prog 104 #[.agg #[tx p.1, tx p.2], .agg #[tx q.1, tx q.2]] w fun e w' => e = .returned (.int .i64 (pCmp p q)) ∧ Below w.heap.size w w' := by
 have hn := byName_any p q
 have hc := compare_any p.2 q.2
 unfold pCmp
 generalize Lib.compareBytes p.2 q.2 = r at hc ⊢
 generalize Lib.compareBytes p.1 q.1 = r1 at hn ⊢
 have hx := (Box.new w p).later (bal (Below.refl _ _) (.cells #[tx q.1, tx q.2] 45))
 have hy := Box.new (w.alloc (.cells #[tx p.1, tx p.2] 45)) q
 have hsz : (w.alloc (.cells #[tx p.1, tx p.2] 45)).heap.size = w.heap.size + 1 := by simp
 rw [hsz] at hy
 have HS : Hid _ := hsz
 clear hsz
 by_cases h : r1 = 0
 ·
  subst h
  rw [if_pos rfl]
  go_enter Tryz.func104, Tryz.ntmps104
  go_wp2_with fail
  refine (hn _).mono ?_
  rintro e w1 ⟨rfl, hb1⟩
  obtain ⟨c0, c1, _, _⟩ := hx.later hb1
  obtain ⟨d0, d1, _, _⟩ := hy.later hb1
  go_wp2_with (go_at_call 125; refine (hc _).mono ?_; rintro e w' ⟨rfl, rfl⟩)
  go_ret
  exact ⟨rfl, Below.chain (bal (bal (Below.refl _ _) _) _) hb1⟩
 ·
  rw [if_neg h]
  have h' : (r1 != 0) = true := by rw [bne_iff_ne]; exact h
  clear h
  go_enter Tryz.func104, Tryz.ntmps104
  go_wp2_with fail
  refine (hn _).mono ?_
  rintro e w1 ⟨rfl, hb1⟩
  go_wp2
  go_ret
  exact ⟨rfl, Below.chain (bal (bal (Below.refl _ _) _) _) hb1⟩
/-- What is left to compare behind j pairs. -/
theorem cmp_drop_eq {a b : List Pr} {j : Nat} (ha : j < a.length) (hb : j < b.length) (h : pCmp (a.getD j ([], [])) (b.getD j ([], [])) = 0) : fCmp (a.drop j) (b.drop j) = fCmp (a.drop (j + 1)) (b.drop (j + 1)) := by
 rw [List.drop_eq_getElem_cons ha, List.drop_eq_getElem_cons hb, fCmp]
 rw [getD_at ha, getD_at hb] at h
 rw [if_pos h]
theorem cmp_drop_ne {a b : List Pr} {j : Nat} (ha : j < a.length) (hb : j < b.length) (h : pCmp (a.getD j ([], [])) (b.getD j ([], [])) ≠ 0) : fCmp (a.drop j) (b.drop j) = pCmp (a.getD j ([], [])) (b.getD j ([], [])) := by
 rw [List.drop_eq_getElem_cons ha, List.drop_eq_getElem_cons hb, fCmp]
 rw [getD_at ha, getD_at hb] at *
 rw [if_neg h]
theorem cmp_long {a b : List Pr} {j : Nat} (ha : j < a.length) (hb : b.length ≤ j) : fCmp (a.drop j) (b.drop j) = 1 := by
 rw [List.drop_eq_getElem_cons ha, List.drop_eq_nil_of_le hb, fCmp]
theorem cmp_end {a b : List Pr} {j : Nat} (ha : a.length ≤ j) : fCmp (a.drop j) (b.drop j) = if j < b.length then -1 else 0 := by
 rw [List.drop_eq_nil_of_le ha]
 by_cases h : j < b.length
 ·
  rw [if_pos h, List.drop_eq_getElem_cons h, fCmp]
 ·
  rw [if_neg h, List.drop_eq_nil_of_le (by omega), fCmp]
set_option maxHeartbeats 2000000 in
theorem cmpFunc_any (xa : Option Addr) (n c : Nat) (a : List Pr) (ya : Option Addr) (m d : Nat) (b : List Pr) (w : World) (hn : n ≤ 9223372036854775807) (hm : m ≤ 9223372036854775807) (hx : Ps w xa n a) (hy : Ps w ya m b) :
  Calls Tryz.prog 103 #[.slice xa n c, .slice ya m d, .func (.func 104) #[] #[]] w fun e w' => e = .returned (.int .i64 (fCmp a b)) ∧ Below w.heap.size w w' := by
 obtain ⟨hla, hca⟩ := hx
 obtain ⟨hlb, hcb⟩ := hy
 have HA : Hid (a.length = n) := hla
 have HB : Hid (b.length = m) := hlb
 clear hla hlb
 go_enter Tryz.func103, Tryz.ntmps103
 go_wp2
 go_loopw [13] (fun i wr => ∃ j : Nat, j ≤ n ∧ j ≤ m ∧ i = .int .i64 j ∧ Hid (fCmp a b = fCmp (a.drop j) (b.drop j)) ∧ Below w.heap.size w wr) (fun i _ => n - (intOf i).toNat)
 case atStart => exact ⟨0, by omega, by omega, rfl, rfl, Below.refl _ _⟩
 case round =>
  obtain ⟨j, hj, hj2, rfl, ht, hb⟩ := hrel
  by_cases hlt : j < n
  ·
   obtain ⟨b1, o1, rfl, h1⟩ := hca (by omega)
   obtain ⟨c10, c11⟩ := h1 j hlt
   have k0 := (hb.cell (p := ⟨b1, o1 + j * 2, none⟩) (World.block_lt_of_cell? _ _ c10)).trans c10
   have k1 := (hb.cell (p := ⟨b1, o1 + j * 2 + 1, none⟩) (World.block_lt_of_cell? _ _ c11)).trans c11
   by_cases hlm : j < m
   ·
    obtain ⟨b2, o2, rfl, h2⟩ := hcb (by omega)
    obtain ⟨c20, c21⟩ := h2 j hlm
    have k2 := (hb.cell (p := ⟨b2, o2 + j * 2, none⟩) (World.block_lt_of_cell? _ _ c20)).trans c20
    have k3 := (hb.cell (p := ⟨b2, o2 + j * 2 + 1, none⟩) (World.block_lt_of_cell? _ _ c21)).trans c21
    have HE : Hid _ := cmp_drop_eq (a := a) (b := b) (j := j) (by rw [HA.out]; exact hlt) (by rw [HB.out]; exact hlm)
    have HN : Hid _ := cmp_drop_ne (a := a) (b := b) (j := j) (by rw [HA.out]; exact hlt) (by rw [HB.out]; exact hlm)
    clear h1 h2 hca hcb c10 c11 c20 c21
    generalize a.getD j ([], []) = p at *
    generalize b.getD j ([], []) = q at *
    have hc := byPair_any p q
    have hl0 : ∀ o, (wr.alloc o).cell? ⟨b2, o2 + j * 2, none⟩ = some (tx q.1) := fun o => ((bal (Below.refl _ wr) o).cell (p := ⟨b2, o2 + j * 2, none⟩) (World.block_lt_of_cell? _ _ k2)).trans k2
    have hl1 : ∀ o, (wr.alloc o).cell? ⟨b2, o2 + j * 2 + 1, none⟩ = some (tx q.2) := fun o => ((bal (Below.refl _ wr) o).cell (p := ⟨b2, o2 + j * 2 + 1, none⟩) (World.block_lt_of_cell? _ _ k3)).trans k3
    have hb1 : ∀ o o', Below w.heap.size w ((wr.alloc o).alloc o') := fun o o' => bal (bal hb o) o'
    have hlt2 : ¬ (m : Int) ≤ j := by omega
    generalize pCmp p q = r at *
    by_cases hr : r = 0
    ·
     have HR : Hid (fCmp a b = fCmp (a.drop (j + 1)) (b.drop (j + 1))) := by show _ = _; rw [ht.out, HE.out hr]
     have hr' : (r != 0) = false := by rw [bne_eq_false_iff_eq]; exact hr
     clear hr HE HN ht
     go_wp2_with fail
     refine (hc _).mono ?_
     rintro e w1 ⟨rfl, hb2⟩
     go_wp2
     go_roundw
     case rel => exact ⟨j + 1, by omega, by omega, by go_num, HR, Below.chain (hb1 _ _) hb2⟩
     case measure => simp [intOf]; omega
    ·
     have HR : Hid (fCmp a b = r) := by show _ = _; rw [ht.out, HN.out hr]
     have hr' : (r != 0) = true := by rw [bne_iff_ne]; exact hr
     clear hr HE HN ht
     go_wp2_with fail
     refine (hc _).mono ?_
     rintro e w1 ⟨rfl, hb2⟩
     go_wp2
     go_ret
     exact ⟨by rw [HR.out]; rfl, Below.chain (hb1 _ _) hb2⟩
   ·
    have HR : Hid (fCmp a b = 1) := by show _ = _; rw [ht.out, cmp_long (by rw [HA.out]; exact hlt) (by rw [HB.out]; omega)]
    have hlt2 : (m : Int) ≤ j := by omega
    clear hca hcb c10 c11
    generalize a.getD j ([], []) = p at *
    have hb1 : ∀ o, Below w.heap.size w (wr.alloc o) := bal hb
    go_wp2
    go_ret
    exact ⟨by rw [HR.out]; rfl, hb1 _⟩
  ·
   have HR : Hid (fCmp a b = if j < m then -1 else 0) := by show _ = _; rw [ht.out, cmp_end (by rw [HA.out]; omega), HB.out]
   obtain rfl : j = n := by omega
   by_cases hlm : j < m
   ·
    have hlm' : (j : Int) < m := by omega
    go_wp2
    go_ret
    exact ⟨by rw [HR.out, if_pos hlm]; rfl, hb⟩
   ·
    have hlm' : ¬ (j : Int) < m := by omega
    go_wp2
    go_ret
    exact ⟨by rw [HR.out, if_neg hlm]; rfl, hb⟩
theorem cmp_any (xa : Option Addr) (n c : Nat) (a : List Pr) (ya : Option Addr) (m d : Nat) (b : List Pr) (w : World) (hn : n ≤ 9223372036854775807) (hm : m ≤ 9223372036854775807) (hx : Ps w xa n a) (hy : Ps w ya m b) :
  Calls Tryz.prog 66 #[.slice xa n c, .slice ya m d] w fun e w' => e = .returned (.int .i64 (fCmp a b)) ∧ Below w.heap.size w w' := by
 have h := cmpFunc_any xa n c a ya m d b w hn hm hx hy
 go_enter Tryz.func66, Tryz.ntmps66
 go_wp2_with fail
 refine h.mono ?_
 rintro e w1 ⟨rfl, hb⟩
 go_wp2
 go_ret
 exact ⟨rfl, hb⟩
end Go.Proofs.YtjgckfcocmhnhaaGreatDoor.Lb
