/- Texts that the others lean on. -/
import Derived.Shelf.Strings.OnBuilder
import Derived.Shelf.Strings.Replace
import Derived.Test.YteankdaegdhfiaaGreatDoorProg
import Derived.Lib.Bytealg
import Derived.Lib.Index
import Derived.Lib.Replace
import Derived.Lib.SplitLaws
import Derived.Lib.IndexLaws
import Derived.Lib.Join
import Derived.Lib.Strings
import Derived.WalkKit
import Derived.WalkSpells
import Derived.WalkLawsBesides
import Derived.Deep.RegionHeld3
import Derived.BigQuiet
import Derived.Laws.StructEq
namespace Go.Proofs
open Go.Shelf
def Tryz.lays156_ren : Go.Shelf.Ren := ⟨fun | 156 => 135 | 165 => 189 | 166 => 190 | 169 => 191 | 240 => 228 | 241 => 229 | 276 => 257 | 277 => 258 | n => n, fun | 31 => 26 | 9 => 9 | 3 => 3 | 4 => 4 | 0 => 0 | 20 => 20 | 72 => 212 | 76 => 94 | 70 => 210 | 37 => 63 | 75 => 93 | 127 => 243 | 164 => 129 | 5 => 5 | 80 => 214 | n => n, fun | n => n⟩
theorem Tryz.lays156 : Go.Proofs.Lays.n156 Tryz.prog Tryz.lays156_ren := {
 mixed := by kernel_rfl
 f156 := Tryz.func135.trans (congrArg some (by kernel_rfl))
 f165 := Tryz.func189.trans (congrArg some (by kernel_rfl))
 f166 := Tryz.func190.trans (congrArg some (by kernel_rfl))
 f169 := Tryz.func191.trans (congrArg some (by kernel_rfl))
 f240 := Tryz.func228.trans (congrArg some (by kernel_rfl))
 f241 := Tryz.func229.trans (congrArg some (by kernel_rfl))
 f276 := Tryz.func257.trans (congrArg some (by kernel_rfl))
 f277 := Tryz.func258.trans (congrArg some (by kernel_rfl))
 t0 := Tryz.underlying0
 a0 := Tryz.isAgg0
 z0 := Tryz.sizeOf0
 v0 := Tryz.zeroValue0
 t3 := Tryz.underlying3
 a3 := Tryz.isAgg3
 z3 := Tryz.sizeOf3
 v3 := Tryz.zeroValue3
 t4 := Tryz.underlying4
 a4 := Tryz.isAgg4
 z4 := Tryz.sizeOf4
 v4 := Tryz.zeroValue4
 t9 := Tryz.underlying9
 a9 := Tryz.isAgg9
 z9 := Tryz.sizeOf9
 v9 := Tryz.zeroValue9
 t20 := Tryz.underlying20
 a20 := Tryz.isAgg20
 z20 := Tryz.sizeOf20
 v20 := Tryz.zeroValue20
 t31 := Tryz.underlying26
 a31 := Tryz.isAgg26
 z31 := Tryz.sizeOf26
 v31 := Tryz.zeroValue26
 t37 := Tryz.underlying63
 a37 := Tryz.isAgg63
 z37 := Tryz.sizeOf63
 v37 := Tryz.zeroValue63
 t70 := Tryz.underlying210
 a70 := Tryz.isAgg210
 z70 := Tryz.sizeOf210
 v70 := Tryz.zeroValue210
 t72 := Tryz.underlying212
 a72 := Tryz.isAgg212
 z72 := Tryz.sizeOf212
 v72 := Tryz.zeroValue212
 t75 := Tryz.underlying93
 a75 := Tryz.isAgg93
 z75 := Tryz.sizeOf93
 v75 := Tryz.zeroValue93
 t76 := Tryz.underlying94
 a76 := Tryz.isAgg94
 z76 := Tryz.sizeOf94
 v76 := Tryz.zeroValue94
 t127 := Tryz.underlying243
 a127 := Tryz.isAgg243
 z127 := Tryz.sizeOf243
 v127 := Tryz.zeroValue243
 t164 := Tryz.underlying129
 a164 := Tryz.isAgg129
 z164 := Tryz.sizeOf129
 v164 := Tryz.zeroValue129 }
theorem Tryz.Builder_Extra_156 : Builder.Extra Tryz.prog Tryz.lays156_ren := {
 sizeBuilder := by kernel_rfl
 liesBuilder := by kernel_rfl
 t5 := Tryz.underlying5
 a5 := Tryz.isAgg5
 z5 := Tryz.sizeOf5
 v5 := Tryz.zeroValue5
 infoByte := by kernel_rfl
 cellsByte := by kernel_rfl
 sizeByte := by kernel_rfl
 neB5 := by decide }
open Go.RowKit in
theorem Tryz.strings_Join_none (a : Option Addr) (c : Nat) (sep : ByteArray) (w : World) :
  Calls Tryz.prog 135 #[.slice a 0 c, .string sep] w fun e w' => e = .returned (.string ⟨#[]⟩) ∧ w' = w := Any.strings_Join_none Tryz.lays156 Tryz.Builder_Extra_156 a c sep w
open Go.RowKit in
theorem Tryz.strings_Join (bk o c : Nat) (xs : List ByteArray) (sep : ByteArray) (w : World) (hcells : ∀ (j : Nat) x, xs[j]? = some x → w.cell? ⟨bk, o + j, none⟩ = some (.string x)) (hbk : bk < w.heap.size) (hN : xs.length ≤ 140737488355328) (hcap : xs.length ≤ c) (hlen : (Lib.join (xs.map (·.data.toList)) sep.data.toList).length ≤ 140737488355328) :
  Calls Tryz.prog 135 #[.slice (some ⟨bk, o, none⟩) xs.length c, .string sep] w fun e w' => e = .returned (.string ⟨(Lib.join (xs.map (·.data.toList)) sep.data.toList).toArray⟩) ∧ Below w.heap.size w w' := Any.strings_Join Tryz.lays156 Tryz.Builder_Extra_156 bk o c xs sep w hcells hbk hN hcap hlen
def Tryz.lays155_ren : Go.Shelf.Ren := ⟨fun | 155 => 256 | 154 => 286 | 138 => 297 | 165 => 189 | 143 => 220 | 166 => 190 | 197 => 202 | 169 => 191 | 195 => 301 | 218 => 302 | 240 => 228 | 241 => 229 | 219 => 249 | 260 => 231 | 276 => 257 | 277 => 258 | 217 => 282 | 225 => 262 | 224 => 261 | 267 => 283 | 266 => 295 | 314 => 296 | n => n, fun | 9 => 9 | 3 => 3 | 4 => 4 | 72 => 212 | 0 => 0 | 76 => 94 | 105 => 222 | 21 => 21 | 5 => 5 | 70 => 210 | 20 => 20 | 37 => 63 | 75 => 93 | 127 => 243 | 164 => 129 | 46 => 120 | 119 => 264 | 139 => 267 | 138 => 266 | 146 => 289 | 51 => 180 | 80 => 214 | n => n, fun | 1 => 4 | 3 => 2 | 4 => 3 | n => n⟩
theorem Tryz.lays155 : Go.Proofs.Lays.n155 Tryz.prog Tryz.lays155_ren := {
 mixed := by kernel_rfl
 f138 := Tryz.func297.trans (congrArg some (by kernel_rfl))
 f143 := Tryz.func220.trans (congrArg some (by kernel_rfl))
 f154 := Tryz.func286.trans (congrArg some (by kernel_rfl))
 f155 := Tryz.func256.trans (congrArg some (by kernel_rfl))
 f165 := Tryz.func189.trans (congrArg some (by kernel_rfl))
 f166 := Tryz.func190.trans (congrArg some (by kernel_rfl))
 f169 := Tryz.func191.trans (congrArg some (by kernel_rfl))
 f195 := Tryz.func301.trans (congrArg some (by kernel_rfl))
 f197 := Tryz.func202.trans (congrArg some (by kernel_rfl))
 f217 := Tryz.func282.trans (congrArg some (by kernel_rfl))
 f218 := Tryz.func302.trans (congrArg some (by kernel_rfl))
 f219 := Tryz.func249.trans (congrArg some (by kernel_rfl))
 f224 := Tryz.func261.trans (congrArg some (by kernel_rfl))
 f225 := Tryz.func262.trans (congrArg some (by kernel_rfl))
 f240 := Tryz.func228.trans (congrArg some (by kernel_rfl))
 f241 := Tryz.func229.trans (congrArg some (by kernel_rfl))
 f260 := Tryz.func231.trans (congrArg some (by kernel_rfl))
 f266 := Tryz.func295.trans (congrArg some (by kernel_rfl))
 f267 := Tryz.func283.trans (congrArg some (by kernel_rfl))
 f276 := Tryz.func257.trans (congrArg some (by kernel_rfl))
 f277 := Tryz.func258.trans (congrArg some (by kernel_rfl))
 f314 := Tryz.func296.trans (congrArg some (by kernel_rfl))
 t0 := Tryz.underlying0
 a0 := Tryz.isAgg0
 z0 := Tryz.sizeOf0
 v0 := Tryz.zeroValue0
 t3 := Tryz.underlying3
 a3 := Tryz.isAgg3
 z3 := Tryz.sizeOf3
 v3 := Tryz.zeroValue3
 t4 := Tryz.underlying4
 a4 := Tryz.isAgg4
 z4 := Tryz.sizeOf4
 v4 := Tryz.zeroValue4
 t5 := Tryz.underlying5
 a5 := Tryz.isAgg5
 z5 := Tryz.sizeOf5
 v5 := Tryz.zeroValue5
 t9 := Tryz.underlying9
 a9 := Tryz.isAgg9
 z9 := Tryz.sizeOf9
 v9 := Tryz.zeroValue9
 t20 := Tryz.underlying20
 a20 := Tryz.isAgg20
 z20 := Tryz.sizeOf20
 v20 := Tryz.zeroValue20
 t21 := Tryz.underlying21
 a21 := Tryz.isAgg21
 z21 := Tryz.sizeOf21
 v21 := Tryz.zeroValue21
 t37 := Tryz.underlying63
 a37 := Tryz.isAgg63
 z37 := Tryz.sizeOf63
 v37 := Tryz.zeroValue63
 t46 := Tryz.underlying120
 a46 := Tryz.isAgg120
 z46 := Tryz.sizeOf120
 v46 := Tryz.zeroValue120
 t51 := Tryz.underlying180
 a51 := Tryz.isAgg180
 z51 := Tryz.sizeOf180
 v51 := Tryz.zeroValue180
 t70 := Tryz.underlying210
 a70 := Tryz.isAgg210
 z70 := Tryz.sizeOf210
 v70 := Tryz.zeroValue210
 t72 := Tryz.underlying212
 a72 := Tryz.isAgg212
 z72 := Tryz.sizeOf212
 v72 := Tryz.zeroValue212
 t75 := Tryz.underlying93
 a75 := Tryz.isAgg93
 z75 := Tryz.sizeOf93
 v75 := Tryz.zeroValue93
 t76 := Tryz.underlying94
 a76 := Tryz.isAgg94
 z76 := Tryz.sizeOf94
 v76 := Tryz.zeroValue94
 t105 := Tryz.underlying222
 a105 := Tryz.isAgg222
 z105 := Tryz.sizeOf222
 v105 := Tryz.zeroValue222
 t119 := Tryz.underlying264
 a119 := Tryz.isAgg264
 z119 := Tryz.sizeOf264
 t127 := Tryz.underlying243
 a127 := Tryz.isAgg243
 z127 := Tryz.sizeOf243
 v127 := Tryz.zeroValue243
 t138 := Tryz.underlying266
 a138 := Tryz.isAgg266
 z138 := Tryz.sizeOf266
 v138 := Tryz.zeroValue266
 t139 := Tryz.underlying267
 a139 := Tryz.isAgg267
 z139 := Tryz.sizeOf267
 v139 := Tryz.zeroValue267
 t146 := Tryz.underlying289
 a146 := Tryz.isAgg289
 z146 := Tryz.sizeOf289
 v146 := Tryz.zeroValue289
 t164 := Tryz.underlying129
 a164 := Tryz.isAgg129
 z164 := Tryz.sizeOf129
 v164 := Tryz.zeroValue129
 g1 := by kernel_rfl
 g3 := by kernel_rfl
 g4 := by kernel_rfl }
theorem Tryz.Builder_Extra_155 : Builder.Extra Tryz.prog Tryz.lays155_ren := {
 sizeBuilder := by kernel_rfl
 liesBuilder := by kernel_rfl
 t5 := Tryz.underlying5
 a5 := Tryz.isAgg5
 z5 := Tryz.sizeOf5
 v5 := Tryz.zeroValue5
 infoByte := by kernel_rfl
 cellsByte := by kernel_rfl
 sizeByte := by kernel_rfl
 neB5 := by decide }
open Go.RowKit Go.Lib in
theorem Tryz.strings_ReplaceAll (s old new : ByteArray) (m : Int) (w : World) (hs : s.size < 4294967281) (hm : w.cell? ⟨4, 0, none⟩ = some (.int .i64 m)) (h1 : 1 ≤ old.size) (hlen : s.size + Lib.countB s old * new.size ≤ 140737488355328) :
  Calls Tryz.prog 256 #[.string s, .string old, .string new] w fun e w' =>
   e = .returned (.string ⟨(Lib.replaceAll s.data.toList old.data.toList new.data.toList).toArray⟩) ∧ Below w.heap.size w w' := Any.strings_ReplaceAll Tryz.lays155 Tryz.Builder_Extra_155 s old new m w hs hm h1 hlen
end Go.Proofs
namespace Go.Proofs.YteankdaegdhfiaaGreatDoor
open Go.RowKit
abbrev Str := List UInt8
abbrev Pr := Str × Str
/-! ### Texts, byte by byte -/
/-! ### Names, values, sets -/
def digB (c : UInt8) : Bool := decide (48 ≤ c.toNat) && decide (c.toNat ≤ 57)
def letB (c : UInt8) : Bool := decide (97 ≤ c.toNat) && decide (c.toNat ≤ 122) || decide (65 ≤ c.toNat) && decide (c.toNat ≤ 90)
def nameCh (c : UInt8) : Bool := digB c || letB c || decide (c.toNat = 95)
def fName (s : Str) : Bool := decide (1 ≤ s.length) && decide (s.length ≤ 20) && !digB (s.headD 0) && s.all nameCh
def fVal (s : Str) : Bool := decide (1 ≤ s.length) && decide (s.length ≤ 30) && !s.contains 10
def okAt (l : List Pr) (i : Nat) : Bool := fName (l.getD i ([], [])).1 && fVal (l.getD i ([], [])).2 && (decide (i = 0) || decide ((l.getD (i - 1) ([], [])).1 < (l.getD i ([], [])).1))
def fIs (l : List Pr) : Bool := decide (l.length ≤ 8) && (List.range l.length).all (okAt l)
/-! ### Sorted by name: one row, where no name comes twice -/
/-! ### Make, Get, With, Keep, Without, Cmp -/
def fGet (l : List Pr) (n : Str) : Str := ((l.find? fun p => decide (p.1 = n)).map (·.2)).getD []
def nm : Str := [95, 95, 110, 97, 109, 101, 95, 95]
def fWithout (l : List Pr) (names : List Str) : List Pr := l.filter fun p => !decide (p.1 = nm) && !names.contains p.1
/-! ### Escaped -/
def escC (c : UInt8) : Str := if c = 92 ∨ c = 34 then [92, c] else [c]
def esc (v : Str) : Str := v.flatMap escC
theorem index_one_cons (x c : UInt8) (s : Str) : Lib.index (x :: s) [c] = if x = c then 0 else if Lib.index s [c] = -1 then -1 else Lib.index s [c] + 1 := by
 rw [Lib.index]
 by_cases h : x = c
 ·
  subst h; simp [List.isPrefixOf]
 ·
  have h' : ¬ c = x := fun e => h e.symm
  simp [List.isPrefixOf, h, h']
theorem replace_one (c : UInt8) (new : Str) (s : Str) : Lib.replaceK [c] new (Lib.count s [c]) s = s.flatMap fun x => if x = c then new else [x] := by
 induction s with
 | nil =>
  have : Lib.count ([] : Str) [c] = 0 := by rw [Lib.count_one]; rfl
  rw [this]; rfl
 | cons x s ih =>
  rw [List.flatMap_cons, ← ih]
  by_cases h : x = c
  ·
   subst h
   rw [Lib.count_one, List.count_cons_self, ← Lib.count_one]
   rw [Lib.replaceK_hit _ _ _ _ 0 (by rw [index_one_cons]; simp)]
   simp
  ·
   rw [if_neg h]
   have hc : Lib.count (x :: s) [c] = Lib.count s [c] := Lib.count_cons_ne x c s h
   rw [hc]
   cases hk : Lib.count s [c] with
   | zero => simp [Lib.replaceK]
   | succ k =>
    obtain ⟨i, hi⟩ := Lib.index_of_count (s := s) (old := [c]) (by omega)
    rw [Lib.replaceK_hit _ _ _ _ i hi]
    have hi' : Lib.index (x :: s) [c] = (i + 1 : Nat) := by
     rw [index_one_cons, if_neg h, if_neg (by omega), hi]; simp
    rw [Lib.replaceK_hit _ _ _ _ (i + 1) hi']
    simp
theorem replaceAll_one (c : UInt8) (new : Str) (s : Str) (hne : [c] ≠ new) : Lib.replaceAll s [c] new = s.flatMap fun x => if x = c then new else [x] := by
 unfold Lib.replaceAll Lib.replace Lib.replaceNum
 rw [if_neg (by simpa using hne), if_pos (by omega)]
 exact replace_one c new s
theorem esc_eq (v : Str) : Lib.replaceAll (Lib.replaceAll v [92] [92, 92]) [34] [92, 34] = esc v := by
 rw [replaceAll_one _ _ _ (by simp), replaceAll_one _ _ _ (by simp)]
 unfold esc
 induction v with
 | nil => rfl
 | cons x v ih =>
  simp only [List.flatMap_cons, List.flatMap_append]
  rw [ih]
  congr 1
  unfold escC
  by_cases h : x = 92
  ·
   subst h; rfl
  ·
   by_cases h2 : x = 34
   ·
    subst h2; rfl
   ·
    simp [h, h2]
theorem esc_len (v : Str) : (esc v).length ≤ 2 * v.length := by
 unfold esc
 induction v with
 | nil => simp
 | cons x v ih =>
  rw [List.flatMap_cons, List.length_append]
  have : (escC x).length ≤ 2 := by unfold escC; split <;> simp
  rw [List.length_cons]; omega
/-! ### Printed -/
def metric (l : List Pr) : Str := if fName (fGet l nm) = true then fGet l nm else []
def others (l : List Pr) : List Pr := if fName (fGet l nm) = true then fWithout l [] else l
def pairT (p : Pr) : Str := p.1 ++ [61, 34] ++ esc p.2 ++ [34]
def inner (l : List Pr) : Str := Lib.join (l.map pairT) [44]
def fPrint (l : List Pr) : Str := if fIs l = true then (if metric l ≠ [] ∧ others l = [] then metric l else metric l ++ [123] ++ inner (others l) ++ [125]) else []
/-! ### Read -/
/-! ### Cut at the first sign -/
theorem name_len {s : Str} (h : fName s = true) : 1 ≤ s.length ∧ s.length ≤ 20 := by
 unfold fName at h
 simp only [Bool.and_eq_true, decide_eq_true_iff] at h
 exact h.1.1
theorem cut_none {s : Str} {c : UInt8} {r : Str} (hs : ∀ x ∈ s, x ≠ c) : Lib.cut s (c :: r) = (s, [], false) := by
 have hi : Lib.index s (c :: r) = -1 := by
  refine Lib.index_none fun j hj => ?_
  unfold Lib.occAt
  by_cases h : j < s.length
  ·
   rw [List.drop_eq_getElem_cons h]
   have := hs s[j] (List.getElem_mem h)
   have h' : ¬ c = s[j] := fun e => this e.symm
   simp [List.isPrefixOf, h']
  ·
   rw [List.drop_eq_nil_of_le (by omega)]; rfl
 unfold Lib.cut
 rw [hi, if_neg (by omega)]
/-! ### What is printed is read -/
theorem ret_int {k : IntKind} {a b : Int} (h : a = b) : Ending.returned (.int k a) = .returned (.int k b) := by rw [h]
theorem ret_bool {a b : Bool} (h : a = b) : Ending.returned (.bool a) = .returned (.bool b) := by rw [h]
theorem Below.chain {a b c : World} (h : Below a.heap.size a b) (k : Below b.heap.size b c) : Below a.heap.size a c := h.trans (k.mono h.size)
theorem bal {a w : World} (h : Below a.heap.size a w) (o : Obj) : Below a.heap.size a (w.alloc o) := h.alloc h.size o
theorem ba_size (l : Str) : (⟨l.toArray⟩ : ByteArray).size = l.length := by show l.toArray.size = _; simp
theorem ba_lt {l : Str} {k : Nat} (h : k < l.length) : k < (⟨l.toArray⟩ : ByteArray).size := by rw [ba_size]; exact h
theorem take_snocB (l : Str) (k : Nat) (h : k < l.length) : l.take (k + 1) = l.take k ++ [l[k]] := List.take_succ_eq_append_getElem h
theorem isDigit_any (c : UInt8) (w : World) : Calls Tryz.prog 192 #[.int .u8 c.toNat] w fun e w' => e = .returned (.bool (digB c)) ∧ w = w' := by
 unfold digB
 go_enter Tryz.func192, Tryz.ntmps192
 go_wp2
 all_goals
  go_ret
  exact ⟨ret_bool (by rw [Bool.eq_iff_iff]; simp; omega), rfl⟩
theorem isLetter_any (c : UInt8) (w : World) : Calls Tryz.prog 193 #[.int .u8 c.toNat] w fun e w' => e = .returned (.bool (letB c)) ∧ w = w' := by
 unfold letB
 go_enter Tryz.func193, Tryz.ntmps193
 go_wp2
 all_goals
  go_ret
  exact ⟨ret_bool (by rw [Bool.eq_iff_iff]; simp; omega), rfl⟩
theorem all_snoc (l : Str) (c : UInt8) (f : UInt8 → Bool) : (l ++ [c]).all f = (l.all f && f c) := by simp
theorem not_all {l : Str} (k : Nat) (hk : k < l.length) (h : nameCh l[k] = false) : l.all nameCh = false := by
 cases hd : l.all nameCh with
 | false => rfl
 | true => rw [List.all_eq_true.1 hd _ (List.getElem_mem hk)] at h; cases h
set_option maxHeartbeats 1000000 in
theorem name_any (l : Str) (w : World) (hl : l.length ≤ 9223372036854775807) :
  Calls Tryz.prog 141 #[.string ⟨l.toArray⟩] w fun e w' => e = .returned (.bool (fName l)) ∧ w = w' := by
 by_cases h1 : 1 ≤ l.length
 ·
  have h1' : ¬ (l.length : Int) < 1 := by omega
  by_cases h2 : l.length ≤ 20
  ·
   have h2' : ¬ (20 : Int) < l.length := by omega
   have hb0 := ba_lt h1
   have hd0 := fun w => isDigit_any ((⟨l.toArray⟩ : ByteArray)[0]'hb0) w
   have hdh : l.headD 0 = (⟨l.toArray⟩ : ByteArray)[0]'hb0 := by
    cases l with
    | nil => cases h1
    | cons c r => rfl
   have e : fName l = (!digB ((⟨l.toArray⟩ : ByteArray)[0]'hb0) && l.all nameCh) := by simp only [fName, h1, h2, hdh, decide_true, Bool.true_and]
   rw [e]
   have HE : Hid (fName l = (!digB ((⟨l.toArray⟩ : ByteArray)[0]'hb0) && l.all nameCh)) := e
   clear e hdh
   cases hd : digB ((⟨l.toArray⟩ : ByteArray)[0]'hb0) with
   | true =>
    rw [hd] at hd0
    go_enter Tryz.func141, Tryz.ntmps141
    go_wp2_with (go_at_call 192; refine (hd0 _).mono ?_; rintro e w' ⟨rfl, rfl⟩)
    go_ret
    exact ⟨by simp, rfl⟩
   | false =>
    rw [hd] at hd0
    clear hd HE
    go_enter Tryz.func141, Tryz.ntmps141
    go_wp2_with (go_at_call 192; refine (hd0 _).mono ?_; rintro e w' ⟨rfl, rfl⟩)
    go_loop [19] (fun i => ∃ k : Nat, k ≤ l.length ∧ i = .int .i64 k ∧ Hid ((l.take k).all nameCh = true)) (fun i => l.length - (intOf i).toNat)
    case atStart => exact ⟨0, by omega, rfl, rfl⟩
    case round =>
     obtain ⟨k, hk, rfl, ha⟩ := hrel
     by_cases hlt : k < l.length
     ·
      have hbk := ba_lt hlt
      have hdk := fun w => isDigit_any ((⟨l.toArray⟩ : ByteArray)[k]'hbk) w
      have hlk := fun w => isLetter_any ((⟨l.toArray⟩ : ByteArray)[k]'hbk) w
      have HC : Hid (nameCh l[k] = (digB ((⟨l.toArray⟩ : ByteArray)[k]'hbk) || letB ((⟨l.toArray⟩ : ByteArray)[k]'hbk) || decide (((⟨l.toArray⟩ : ByteArray)[k]'hbk).toNat = 95))) := rfl
      have HS : Hid ((l.take (k + 1)).all nameCh = nameCh l[k]) := by
       show _ = _
       rw [take_snocB l k hlt, all_snoc, ha.out, Bool.true_and]
      have HN : Hid (nameCh l[k] = false → l.all nameCh = false) := not_all k hlt
      generalize nameCh l[k] = N at *
      cases hdc : digB ((⟨l.toArray⟩ : ByteArray)[k]'hbk) with
      | true =>
       rw [hdc] at hdk
       have HT : Hid ((l.take (k + 1)).all nameCh = true) := by show _ = _; rw [HS.out, HC.out, hdc]; rfl
       clear hdc
       go_wp2_with (go_at_call 192; refine (hdk _).mono ?_; rintro e w' ⟨rfl, rfl⟩)
       go_round
       case rel => exact ⟨k + 1, by omega, by go_num, HT⟩
       case measure => simp [intOf]; omega
      | false =>
       rw [hdc] at hdk
       cases hlc : letB ((⟨l.toArray⟩ : ByteArray)[k]'hbk) with
       | true =>
        rw [hlc] at hlk
        have HT : Hid ((l.take (k + 1)).all nameCh = true) := by show _ = _; rw [HS.out, HC.out, hdc, hlc]; rfl
        clear hdc hlc
        go_wp2_with (first | (go_at_call 192; refine (hdk _).mono ?_; rintro e w' ⟨rfl, rfl⟩) | (go_at_call 193; refine (hlk _).mono ?_; rintro e w' ⟨rfl, rfl⟩))
        go_round
        case rel => exact ⟨k + 1, by omega, by go_num, HT⟩
        case measure => simp [intOf]; omega
       | false =>
        rw [hlc] at hlk
        by_cases hu : ((⟨l.toArray⟩ : ByteArray)[k]'hbk).toNat = 95
        ·
         have HT : Hid ((l.take (k + 1)).all nameCh = true) := by show _ = _; rw [HS.out, HC.out, hdc, hlc]; simp [hu]
         clear hdc hlc
         have hu' : ((((⟨l.toArray⟩ : ByteArray)[k]'hbk).toNat : Int) != 95) = false := by rw [bne_eq_false_iff_eq]; omega
         clear hu
         go_wp2_with (first | (go_at_call 192; refine (hdk _).mono ?_; rintro e w' ⟨rfl, rfl⟩) | (go_at_call 193; refine (hlk _).mono ?_; rintro e w' ⟨rfl, rfl⟩))
         go_round
         case rel => exact ⟨k + 1, by omega, by go_num, HT⟩
         case measure => simp [intOf]; omega
        ·
         have HF : Hid (l.all nameCh = false) := HN.out (by rw [HC.out, hdc, hlc]; simp [hu])
         clear hdc hlc
         have hu' : ((((⟨l.toArray⟩ : ByteArray)[k]'hbk).toNat : Int) != 95) = true := by rw [bne_iff_ne]; omega
         clear hu
         go_wp2_with (first | (go_at_call 192; refine (hdk _).mono ?_; rintro e w' ⟨rfl, rfl⟩) | (go_at_call 193; refine (hlk _).mono ?_; rintro e w' ⟨rfl, rfl⟩))
         go_ret
         exact ⟨by rw [HF.out]; rfl, rfl⟩
     ·
      have HF : Hid (l.all nameCh = true) := by
       have := ha.out
       rw [List.take_of_length_le (by omega)] at this
       exact this
      go_wp2_with fail
      go_ret
      exact ⟨by rw [HF.out]; rfl, rfl⟩
  ·
   have h2' : (20 : Int) < l.length := by omega
   have e : fName l = false := by simp [fName, h2]
   rw [e]
   go_enter Tryz.func141, Tryz.ntmps141
   go_wp2_with fail
   go_ret
   exact ⟨rfl, rfl⟩
 ·
  have h1' : (l.length : Int) < 1 := by omega
  have e : fName l = false := by simp [fName, h1]
  rw [e]
  go_enter Tryz.func141, Tryz.ntmps141
  go_wp2_with fail
  go_ret
  exact ⟨rfl, rfl⟩
/-- A text as the model has it. -/
abbrev tx (s : Str) : Value := .string ⟨s.toArray⟩
theorem take_at {P : Program} {ops : Array Oper} {Q : Exit → Act → World → Prop} {md : Region.Mode} {S : World → Prop} (i : Nat) (d : Option Tmp) (v : Value) {oi : Oper} {fuel : Nat} {listed : Array Bool} {a : Act} {w : World} (hi : ops[i]? = some oi) (hd : oi.dst = d)
  (hs : Region.noSelect ops = true) (hf : Region.free md ops listed i = true) (hr : (Region.ready md ops listed).contains i = true)
  (hQ : ∀ c a w, Q (.panic c) (a.put oi.dst v) w → Q (.panic c) a w) (hw : Region.wanted oi (yielded ops a.tmps) = true) (hy : ∀ w, S w → (execOp a.eval oi).run P w = .ok (.value v) w) (hS : S w)
  (h : wpAnyH P md ops Q S fuel (listed.setIfInBounds i true) (a.put d v) w) : wpAnyH P md ops Q S (fuel + 1) listed a w := by
 subst hd
 exact wpAnyH_take hi hs hf hr hQ (Or.inl ⟨hw, hy⟩) hS h
theorem tk {P : Program} {ops : Array Oper} {Q : Exit → Act → World → Prop} {md : Region.Mode} {S : World → Prop} (i d : Nat) (v : Value) {oi : Oper} {fuel : Nat} {listed : Array Bool} {a : Act} {w : World} (hi : ops[i]? = some oi) (hy : ∀ w, S w → (execOp a.eval oi).run P w = .ok (.value v) w) (hS : S w)
  (h : wpAnyH P md ops Q S fuel (listed.setIfInBounds i true) (a.put (some d) v) w) (hd : oi.dst = some d := by rfl) (hs : Region.noSelect ops = true := by kernel_rfl) (hf : Region.free md ops listed i = true := by kernel_rfl) (hr : (Region.ready md ops listed).contains i = true := by kernel_rfl)
  (hQ : ∀ c a w, Q (.panic c) (a.put oi.dst v) w → Q (.panic c) a w := by exact fun _ _ _ h => h) (hw : Region.wanted oi (yielded ops a.tmps) = true := by rfl) : wpAnyH P md ops Q S (fuel + 1) listed a w := take_at i (some d) v hi hd hs hf hr hQ hw hy hS h
theorem pB {α : Type} (l : List α) (i : Nat) (a : α) : l.toArray.setIfInBounds i a = (l.set i a).toArray := List.setIfInBounds_toArray l i a
theorem pC {α : Type} (a b : α) (l : List α) : (a :: l).set 0 b = b :: l := rfl
theorem pD {α : Type} (a b : α) (l : List α) (n : Nat) : (a :: l).set (n + 1) b = a :: l.set n b := rfl
theorem skip_at {P : Program} {ops : Array Oper} {Q : Exit → Act → World → Prop} {md : Region.Mode} {S : World → Prop} (i : Nat) (d : Option Tmp) {oi : Oper} {fuel : Nat} {listed : Array Bool} {a : Act} {w : World} (hi : ops[i]? = some oi) (hd : oi.dst = d)
  (hs : Region.noSelect ops = true) (hf : Region.free md ops listed i = true) (hr : (Region.ready md ops listed).contains i = true)
  (hQ : ∀ c a w, Q (.panic c) (a.put oi.dst undef) w → Q (.panic c) a w) (hw : Region.wanted oi (yielded ops a.tmps) = false) (hS : S w)
  (h : wpAnyH P md ops Q S fuel (listed.setIfInBounds i true) (a.put d undef) w) : wpAnyH P md ops Q S (fuel + 1) listed a w := by
 subst hd
 exact wpAnyH_take hi hs hf hr hQ (Or.inr ⟨hw, rfl⟩) hS h
/-- bytealg.MaxLen is some number. -/
def Mx (w : World) : Prop := ∃ m : Int, w.cell? ⟨4, 0, none⟩ = some (.int .i64 m)
theorem Mx.later {w w' : World} (h : Mx w) (hb : Below w.heap.size w w') : Mx w' := by
 obtain ⟨m, h⟩ := h
 exact ⟨m, (hb.cell (p := ⟨4, 0, none⟩) (World.block_lt_of_cell? _ _ h)).trans h⟩
/-! ### Texts one behind the other -/
/-- A slice of texts. -/
def Ss (w : World) (ao : Option Addr) (n : Nat) (l : List Str) : Prop :=
 l.length = n ∧ (0 < n → ∃ b off, ao = some ⟨b, off, none⟩ ∧ ∀ j, j < n → w.cell? ⟨b, off + j, none⟩ = some (tx (l.getD j [])))
theorem Ss.nil (w : World) (ao : Option Addr) : Ss w ao 0 [] := ⟨rfl, fun h => by omega⟩
/-! ### Slices of texts that grow -/
def OwnS (w : World) (base : Nat) (v : Value) (l : List Str) : Prop := w.ownsRow base 9 1 v l.length (l.map tx)
theorem info9 : (Tryz.prog.info? 9).map (fun i => (i.zero, i.size, i.bytes)) = some (some (tx []), 1, 16) := by kernel_rfl
theorem info_parts9 : ∃ i, Tryz.prog.info? 9 = some i ∧ i.zero = some (tx []) ∧ i.size = 1 ∧ i.bytes = 16 := by
 have h := info9
 cases hi : Tryz.prog.info? 9 with
 | none => rw [hi] at h; cases h
 | some i =>
  rw [hi] at h
  simp only [Option.map_some, Option.some.injEq, Prod.mk.injEq] at h
  exact ⟨i, rfl, h.1, h.2.1, h.2.2⟩
theorem OwnS.later {w w' : World} {base : Nat} {v : Value} {l : List Str} (h : OwnS w base v l) (hb : Below w.heap.size w w') : OwnS w' base v l := by
 refine ⟨h.1, ?_⟩
 rcases h.2 with h0 | ⟨g, cap, cur, hv, hg0, hg, hn, hm, hs, ht⟩
 ·
  exact Or.inl h0
 ·
  have hlt : g < w.heap.size := by
   by_cases hlt : g < w.heap.size
   ·
    exact hlt
   ·
    rw [Array.getElem?_eq_none (by omega)] at hg; cases hg
  exact Or.inr ⟨g, cap, cur, hv, hg0, (hb.block g hlt).trans hg, hn, hm, hs, ht⟩
theorem OwnS.snoc {w : World} {base : Nat} {v : Value} {l : List Str} {p : Str} (h : w.ownsRow base 9 1 v (l.length + 1) (l.map tx ++ [tx p])) : OwnS w base v (l ++ [p]) := by
 unfold OwnS
 rw [List.map_append, List.length_append]
 exact h
theorem OwnS.slice {w : World} {base : Nat} {v : Value} {l : List Str} (h : OwnS w base v l) : ∃ ao cap, v = .slice ao l.length cap ∧ Ss w ao l.length l ∧ l.length ≤ cap ∧ (0 < l.length → ∃ g, ao = some ⟨g, 0, none⟩ ∧ g < w.heap.size) := by
 rcases h.2 with ⟨rfl, h0⟩ | ⟨g, cap, cur, rfl, hb, hg, hn, _, hs, ht⟩
 ·
  have : l = [] := List.length_eq_zero_iff.1 h0
  subst this
  exact ⟨none, 0, rfl, Ss.nil _ _, Nat.le_refl _, fun h => by simp at h⟩
 ·
  have hlt : g < w.heap.size := by
   by_cases hlt : g < w.heap.size
   ·
    exact hlt
   ·
    rw [Array.getElem?_eq_none (by omega)] at hg; cases hg
  refine ⟨_, cap, rfl, ⟨rfl, fun _ => ⟨g, 0, rfl, fun j hj => ?_⟩⟩, hn, fun _ => ⟨g, rfl, hlt⟩⟩
  rw [cell_of_row _ _ _ _ _ _ hg, Nat.zero_add]
  have e : (cur.toList.take (l.length * 1))[j]? = (l.map tx)[j]? := by rw [ht]
  rw [List.getElem?_take_of_lt (by omega)] at e
  rw [← Array.getElem?_toList, e]
  simp [List.getD, List.getElem?_eq_getElem hj]
theorem step_append {ops : Array Oper} {o : Oper} {a : Act} {W : World} {K : Act → World → Prop} {Q : Exit → Act → World → Prop} {E : Prop} (s x : Operand) (d : Option Tmp) (t : TypeId)
  (ho : o.op = .call { callee := .builtin .append, args := #[s, x], argTypes := #[t, t] }) (hd : o.dst = d) (hw : Region.wanted o (yielded ops a.tmps) = true)
  (base : Nat) (e : TypeId) (i : TypeInfo) (z : Value) (size bytes : Nat) (ht : Tryz.prog.underlying t = some (.slice e)) (hi : Tryz.prog.info? e = some i) (hz : i.zero = some z)
  (hsize : i.size = size) (hby : i.bytes = bytes) (hzs : z.cells.size = size) (hsz : 0 < size)
  (v : Value) (n : Nat) (xs : List Value) (hs : a.eval s = v) (hown : W.ownsRow base e size v n xs)
  (ad : Addr) (m c : Nat) (news : List Value) (hx : a.eval x = .slice (some ad) m c) (hl : news.length = m * size) (hnews : ∀ j u, news[j]? = some u → W.cell? (ad.add j) = some u) (h1 : ∀ u ∈ news, u.oneCell' = true)
  (h63 : n + m ≤ maxLen) (hbytes : (n + m) * bytes ≤ 140737488355328) (hbase : base ≤ W.heap.size)
  (h : ∀ v' w', w'.ownsRow base e size v' (n + m) (xs ++ news) → W.grownBy w' v.ownBlock → K (a.put d v') w') :
  if Region.wanted o (yielded ops a.tmps) = true then Oper.wp Tryz.prog o a W K Q else E := by
 subst hd
 rw [if_pos hw]
 exact wp_append_own W s x t ho base e i z size bytes ht hi hz hsize hby hzs hsz v n xs hs hown ad m c news hx hl hnews h1 h63 hbytes hbase fun v' w' h2 h3 _ => h v' w' h2 h3
theorem count_le (s : Str) (c : UInt8) : Lib.count s [c] ≤ s.length := by
 rw [Lib.count_one]
 exact List.count_le_length
theorem replace_any (s : Str) (c : UInt8) (new : Str) (w : World) (hs : s.length ≤ 1000000) (hn : new.length = 2) (hne : [c] ≠ new) (hm : Mx w) :
  Calls Tryz.prog 256 #[tx s, .string ⟨#[c]⟩, tx new] w fun e w' => e = .returned (tx (s.flatMap fun x => if x = c then new else [x])) ∧ Below w.heap.size w w' := by
 obtain ⟨m, hm⟩ := hm
 have hb : Lib.countB (⟨s.toArray⟩ : ByteArray) ⟨#[c]⟩ ≤ s.length := count_le s c
 have e2 : (⟨new.toArray⟩ : ByteArray).size = 2 := by rw [ba_size, hn]
 refine (Tryz.strings_ReplaceAll ⟨s.toArray⟩ ⟨#[c]⟩ ⟨new.toArray⟩ m w (by rw [ba_size]; omega) hm (Nat.le_refl 1) (by rw [ba_size, e2]; omega)).mono ?_
 rintro e w' ⟨rfl, hb⟩
 refine ⟨?_, hb⟩
 rw [← replaceAll_one c new s hne]
theorem esc_two (v : Str) : (v.flatMap fun x => if x = 92 then [92, 92] else [x]).flatMap (fun x => if x = 34 then [92, 34] else [x]) = esc v := by
 rw [← esc_eq, replaceAll_one _ _ _ (by simp), replaceAll_one _ _ _ (by simp)]
theorem esc_one_len (v : Str) : (v.flatMap fun x => if x = 92 then [92, 92] else [x]).length ≤ 2 * v.length := by
 induction v with
 | nil => simp
 | cons x v ih =>
  rw [List.flatMap_cons, List.length_append, List.length_cons]
  have : (if x = 92 then ([92, 92] : Str) else [x]).length ≤ 2 := by split <;> simp
  omega
theorem join_any (v : Value) (base : Nat) (l : List Str) (w : World) (ho : OwnS w base v l) (hl : (Lib.join l [32]).length ≤ 1000000) (hN : l.length ≤ 1000000) :
  Calls Tryz.prog 135 #[v, .string ⟨#[32]⟩] w fun e w' => e = .returned (tx (Lib.join l [32])) ∧ Below w.heap.size w w' := by
 obtain ⟨ao, cap, rfl, hs, hc, hb⟩ := ho.slice
 by_cases h0 : l.length = 0
 ·
  obtain rfl : l = [] := List.length_eq_zero_iff.1 h0
  refine (Tryz.strings_Join_none ao cap ⟨#[32]⟩ w).mono ?_
  rintro e w' ⟨rfl, rfl⟩
  exact ⟨rfl, Below.refl _ _⟩
 ·
  have hpos : 0 < l.length := Nat.pos_of_ne_zero h0
  obtain ⟨g, rfl, hlt⟩ := hb hpos
  obtain ⟨_, h4⟩ := hs
  obtain ⟨b, off, e, hcell⟩ := h4 hpos
  cases e
  have em : (l.map fun s => (⟨s.toArray⟩ : ByteArray)).map (·.data.toList) = l := by
   rw [List.map_map]
   conv => rhs; rw [← List.map_id l]
   apply List.map_congr_left
   intro s _
   simp
  have h := Tryz.strings_Join g 0 cap (l.map fun s => (⟨s.toArray⟩ : ByteArray)) ⟨#[32]⟩ w (fun j x hx => by
   rw [List.getElem?_map] at hx
   cases hj : l[j]? with
   | none => rw [hj] at hx; cases hx
   | some s =>
    rw [hj] at hx
    cases hx
    have hlt : j < l.length := by
     by_cases h : j < l.length
     ·
      exact h
     ·
      rw [List.getElem?_eq_none (by omega)] at hj; cases hj
    rw [hcell j hlt, List.getD, hj]
    rfl) hlt (by simp; omega) (by simpa using hc) (by rw [em]; show (Lib.join l [32]).length ≤ _; omega)
  rw [em] at h
  simp only [List.length_map] at h
  exact h.mono fun e w' ⟨he, hb⟩ => ⟨he, hb⟩
theorem ba_append (x y : List UInt8) : (⟨x.toArray⟩ : ByteArray) ++ ⟨y.toArray⟩ = ⟨(x ++ y).toArray⟩ := by
 apply ByteArray.ext
 simp
theorem exec_add {P : Program} {a : Act} {o : Oper} {x y : Operand} {t u : TypeId} (ho : o.op = .binOp .add t x y u) (s r : Str) (hx : a.eval x = tx s) (hy : a.eval y = tx r) (hl : s.length + r.length ≤ 8388608) (q : Str) (hq : q = s ++ r) (w : World) : (execOp a.eval o).run P w = .ok (.value (tx q)) w := by
 subst hq
 unfold execOp
 simp only [ho, hx, hy]
 simp only [binOp_string_add, Sem.run_bind, Sem.run_pure]
 go_simp
 rw [if_neg (by omega), ba_append]
theorem one_cell {w : World} {b : Nat} {v : Value} (h : w.cell? ⟨b, 0, none⟩ = some v) : ∀ j u, [v][j]? = some u → w.cell? ((⟨b, 0, none⟩ : Addr).add j) = some u := by
 intro j u hu
 rw [Addr.add_lit, Nat.zero_add]
 match j, hu with
 | 0, hu => rw [h]; exact hu
 | j + 1, hu => simp at hu
theorem info5 : (Tryz.prog.info? 5).map (fun i => (i.zero, i.size, i.bytes)) = some (some (.int .u8 0), 1, 1) := by kernel_rfl
theorem info_parts5 : ∃ i, Tryz.prog.info? 5 = some i ∧ i.zero = some (.int .u8 0) ∧ i.size = 1 ∧ i.bytes = 1 := by
 have h := info5
 cases hi : Tryz.prog.info? 5 with
 | none => rw [hi] at h; cases h
 | some i =>
  rw [hi] at h
  simp only [Option.map_some, Option.some.injEq, Prod.mk.injEq] at h
  exact ⟨i, rfl, h.1, h.2.1, h.2.2⟩
abbrev by8 (c : UInt8) : Value := .int .u8 (c.toNat : Int)
def OwnB (w : World) (base : Nat) (v : Value) (l : Str) : Prop := w.ownsRow base 5 1 v l.length (l.map by8)
theorem OwnB.later {w w' : World} {base : Nat} {v : Value} {l : Str} (h : OwnB w base v l) (hb : Below w.heap.size w w') : OwnB w' base v l := by
 refine ⟨h.1, ?_⟩
 rcases h.2 with h0 | ⟨g, cap, cur, hv, hg0, hg, hn, hm, hs, ht⟩
 ·
  exact Or.inl h0
 ·
  have hlt : g < w.heap.size := by
   by_cases hlt : g < w.heap.size
   ·
    exact hlt
   ·
    rw [Array.getElem?_eq_none (by omega)] at hg; cases hg
  exact Or.inr ⟨g, cap, cur, hv, hg0, (hb.block g hlt).trans hg, hn, hm, hs, ht⟩
theorem OwnB.snoc {w : World} {base : Nat} {v : Value} {l : Str} {c : UInt8} (h : w.ownsRow base 5 1 v (l.length + 1) (l.map by8 ++ [by8 c])) : OwnB w base v (l ++ [c]) := by
 unfold OwnB
 rw [List.map_append, List.length_append]
 exact h
theorem OwnB.string {w : World} {base : Nat} {v : Value} {l : Str} (h : OwnB w base v l) : ∀ W, Below w.heap.size w W → (convert 63 9 v).run Tryz.prog W = .ok (tx l) W := by
 intro W hW
 rcases (h.later hW).2 with ⟨rfl, h0⟩ | ⟨g, cap, cur, rfl, hb, hg, hn, _, hs, ht⟩
 ·
  obtain rfl : l = [] := List.length_eq_zero_iff.1 h0
  exact run_convert_bytes_nil W 63 5 Tryz.underlying63 Tryz.underlying5 0 0 9 Tryz.underlying9
 ·
  refine run_convert_bytes_back W 63 9 5 ⟨g, 0, none⟩ cap l Tryz.underlying63 Tryz.underlying5 Tryz.underlying9 (fun j hj => ?_)
  rw [Addr.add_lit, cell_of_row _ _ _ _ _ _ hg, Nat.zero_add]
  have e : (cur.toList.take (l.length * 1))[j]? = (l.map by8)[j]? := by rw [ht]
  rw [List.getElem?_take_of_lt (by omega)] at e
  rw [← Array.getElem?_toList, e]
  simp [List.getElem?_eq_getElem hj]
theorem ex_tail (s : Str) (k : Nat) : (⟨s.toArray⟩ : ByteArray).extract k s.length = ⟨(s.drop k).toArray⟩ := by
 rw [Lib.extract_eq]
 congr 2
 exact List.take_of_length_le (by simp)
theorem index_at (s : Str) (k : Nat) (h : k < (⟨s.toArray⟩ : ByteArray).size) (W : World) : (Instr.index 9 (tx s) (.int .i64 (k : Int))).run Tryz.prog W = .ok (by8 ((⟨s.toArray⟩ : ByteArray)[k]'h)) W := by
 have hk : k < s.length := by rw [ba_size] at h; exact h
 have u9 := Tryz.underlying9
 go_simp
theorem byte_eq {c : UInt8} {k : Nat} (hk : k < 256) (h : (c.toNat : Int) = k) : c = UInt8.ofNat k := by
 apply UInt8.toNat_inj.1
 rw [UInt8.toNat_ofNat_of_lt' (by simpa using hk)]
 omega
theorem byte_ne {c : UInt8} {k : Nat} (hk : k < 256) (h : ¬ (c.toNat : Int) = k) : c ≠ UInt8.ofNat k := by
 intro e
 rw [e, UInt8.toNat_ofNat_of_lt' (by simpa using hk)] at h
 exact h rfl
/-- Behind the first quote: the text, and how many bytes with the closing quote. -/
def qd : Str → Option (Str × Nat)
 | [] => none
 | [c] => if c = 34 then some ([], 1) else none
 | c :: d :: r =>
  if c = 34 then some ([], 1)
  else if c = 92 then (if d = 34 ∨ d = 92 then (qd r).map fun x => (d :: x.1, x.2 + 2) else none)
  else if c = 10 then none
  else (qd (d :: r)).map fun x => (c :: x.1, x.2 + 1)
theorem qd_quote (r : Str) : qd (34 :: r) = some ([], 1) := by
 cases r with
 | nil => rfl
 | cons d r => rw [qd, if_pos rfl]
theorem qd_plain {c : UInt8} (r : Str) (h1 : c ≠ 34) (h2 : c ≠ 92) (h3 : c ≠ 10) : qd (c :: r) = (qd r).map fun x => (c :: x.1, x.2 + 1) := by
 cases r with
 | nil =>
  show (if c = 34 then some ([], 1) else none) = none
  rw [if_neg h1]
 | cons d r => rw [qd, if_neg h1, if_neg h2, if_neg h3]
theorem qd_back {d : UInt8} (r : Str) (h : d = 34 ∨ d = 92) : qd (92 :: d :: r) = (qd r).map fun x => (d :: x.1, x.2 + 2) := by
 rw [qd, if_neg (by decide), if_pos rfl, if_pos h]
theorem qd_back_no {d : UInt8} (r : Str) (h : ¬ (d = 34 ∨ d = 92)) : qd (92 :: d :: r) = none := by
 rw [qd, if_neg (by decide), if_pos rfl, if_neg h]
theorem qd_line (r : Str) : qd (10 :: r) = none := by
 cases r with
 | nil => rfl
 | cons d r => rw [qd, if_neg (by decide), if_neg (by decide), if_pos rfl]
def qText (s : Str) : Str := if s.head? = some 34 then ((qd s.tail).map (·.1)).getD [] else []
def qLen (s : Str) : Nat := if s.head? = some 34 then ((qd s.tail).map (·.2 + 1)).getD 0 else 0
/-- What the loop holds at place i: what is read, and what is left to read. -/
def qAt (s : Str) (i : Nat) (b : Str) : Prop := qd (s.drop 1) = (qd (s.drop i)).map fun x => (b ++ x.1, (i - 1) + x.2)
theorem qAt_start (s : Str) : qAt s 1 [] := by
 unfold qAt
 cases qd (s.drop 1) <;> simp
theorem qAt_plain {s b : Str} {i : Nat} (h : i < s.length) (h0 : 1 ≤ i) (hq : qAt s i b) (h1 : s[i] ≠ 34) (h2 : s[i] ≠ 92) (h3 : s[i] ≠ 10) : qAt s (i + 1) (b ++ [s[i]]) := by
 unfold qAt at *
 rw [hq, List.drop_eq_getElem_cons h, qd_plain _ h1 h2 h3]
 cases qd (s.drop (i + 1)) with
 | none => rfl
 | some x => simp; omega
theorem qAt_back {s b : Str} {i : Nat} (h : i + 1 < s.length) (h0 : 1 ≤ i) (hq : qAt s i b) (h1 : s[i] = 92) (h2 : s[i + 1] = 34 ∨ s[i + 1] = 92) : qAt s (i + 2) (b ++ [s[i + 1]]) := by
 unfold qAt at *
 rw [hq, List.drop_eq_getElem_cons (show i < s.length by omega), List.drop_eq_getElem_cons h, h1, qd_back _ h2]
 cases qd (s.drop (i + 1 + 1)) with
 | none => rfl
 | some x => simp; omega
theorem qAt_end {s b : Str} {i : Nat} (h : i < s.length) (h0 : 1 ≤ i) (hq : qAt s i b) (h1 : s[i] = 34) : qd (s.drop 1) = some (b, i) := by
 unfold qAt at hq
 rw [hq, List.drop_eq_getElem_cons h, h1, qd_quote]
 simp
 omega
theorem qAt_none {s b : Str} {i : Nat} (hq : qAt s i b) (h : qd (s.drop i) = none) : qd (s.drop 1) = none := by
 unfold qAt at hq
 rw [hq, h]
 rfl
theorem q_some {s : Str} {x : Str × Nat} (h0 : s.head? = some 34) (h : qd (s.drop 1) = some x) : qText s = x.1 ∧ qLen s = x.2 + 1 := by
 unfold qText qLen
 rw [if_pos h0, if_pos h0, ← List.drop_one, h]
 exact ⟨rfl, rfl⟩
theorem q_none {s : Str} (h : qd (s.drop 1) = none) : qText s = [] ∧ qLen s = 0 := by
 unfold qText qLen
 rw [← List.drop_one, h]
 simp
theorem q_not {s : Str} (h : s.head? ≠ some 34) : qText s = [] ∧ qLen s = 0 := by
 unfold qText qLen
 rw [if_neg h, if_neg h]
 exact ⟨rfl, rfl⟩
theorem head_at {s : Str} (h : 0 < s.length) : s.head? = some s[0] := by
 cases s with
 | nil => cases h
 | cons c r => rfl
theorem ownB_none (w : World) (base : Nat) : OwnB w base (.slice none 0 0) [] := ⟨rfl, Or.inl ⟨rfl, rfl⟩⟩
set_option maxRecDepth 100000 in
set_option maxHeartbeats 4000000 in
theorem quoted_any (s : Str) (w : World) (hs : s.length ≤ 1000000) : Calls Tryz.prog 106 #[tx s] w fun e w' => e = .returned (.tuple #[tx (qText s), .int .i64 (qLen s : Nat)]) ∧ Below w.heap.size w w' := by
 obtain ⟨i0, hi, hz0, hz1, hz2⟩ := info_parts5
 by_cases he : s = []
 ·
  have HQ : Hid (qText s = [] ∧ qLen s = 0) := q_not (by rw [he]; simp)
  have he' : (s == []) = true := by simpa using he
  clear he
  go_enter Tryz.func106, Tryz.ntmps106
  go_wp2_with fail
  go_ret2
  exact ⟨by rw [HQ.out.1, HQ.out.2]; rfl, Below.refl _ _⟩
 ·
  have he' : (s == []) = false := by simpa using he
  have hpos : 0 < s.length := List.length_pos_iff.2 he
  have hb0 := ba_lt hpos
  have HH : Hid (s.head? = some ((⟨s.toArray⟩ : ByteArray)[0]'hb0)) := head_at hpos
  clear he
  by_cases hq0 : (((⟨s.toArray⟩ : ByteArray)[0]'hb0).toNat : Int) = 34
  ·
   have HH34 : Hid (s.head? = some 34) := by show _ = _; rw [HH.out, byte_eq (k := 34) (by decide) hq0]; rfl
   have hq0' : ((((⟨s.toArray⟩ : ByteArray)[0]'hb0).toNat : Int) == 34) = true := beq_iff_eq.2 hq0
   have hq0n : ((((⟨s.toArray⟩ : ByteArray)[0]'hb0).toNat : Int) != 34) = false := by rw [bne, hq0']; rfl
   clear hq0 HH
   go_enter Tryz.func106, Tryz.ntmps106
   go_wp2_with fail
   go_loopw [5, 4] (fun i u wr => ∃ (j : Nat) (v : Value) (l : Str), j ≤ s.length ∧ 1 ≤ j ∧ l.length ≤ j ∧ i = .int .i64 j ∧ v = u ∧ OwnB wr w.heap.size v l ∧ Hid (qAt s j l) ∧ Below w.heap.size w wr) (fun i _ _ => s.length - (intOf i).toNat)
   case atStart => exact ⟨1, _, [], by omega, by omega, by simp, rfl, rfl, ownB_none _ _, qAt_start s, Below.refl _ _⟩
   case round =>
    obtain ⟨j, v, l, hj, hj1, hlj, rfl, rfl, ho, HR, hb⟩ := hrel
    have hcv := ho.string
    by_cases hlt : j < s.length
    ·
     have hbk := ba_lt hlt
     have HC : Hid (s[j] = ((⟨s.toArray⟩ : ByteArray)[j]'hbk)) := rfl
     by_cases hq : (((⟨s.toArray⟩ : ByteArray)[j]'hbk).toNat : Int) = 34
     ·
      have HQ : Hid (qText s = l ∧ qLen s = j + 1) := q_some HH34.out (qAt_end hlt hj1 HR.out (by rw [HC.out]; exact byte_eq (k := 34) (by decide) hq))
      clear HR HC
      have hq' : ((((⟨s.toArray⟩ : ByteArray)[j]'hbk).toNat : Int) == 34) = true := beq_iff_eq.2 hq
      clear hq
      have hcd : ∀ k, (convert 63 9 v).run Tryz.prog (wr.drewN k) = .ok (tx l) (wr.drewN k) := fun k => hcv _ (below_drewN (Below.refl _ _) k)
      have hc0 := hcv wr (Below.refl _ _)
      have hwr : IntKind.i64.wrap ((j : Int) + 1) = (j : Int) + 1 := by rw [IntKind.wrap_i64]; omega
      clear hcv
      go_wp2_with fail
      go_ret2
      exact ⟨by rw [HQ.out.1, HQ.out.2]; rfl, hb⟩
     ·
      have hq1 := byte_ne (k := 34) (by decide) hq
      have hq' : ((((⟨s.toArray⟩ : ByteArray)[j]'hbk).toNat : Int) == 34) = false := beq_eq_false_iff_ne.2 hq
      by_cases hk : (((⟨s.toArray⟩ : ByteArray)[j]'hbk).toNat : Int) = 92
      ·
       have hk' : ((((⟨s.toArray⟩ : ByteArray)[j]'hbk).toNat : Int) == 92) = true := beq_iff_eq.2 hk
       have hk2 : s[j] = 92 := by rw [HC.out]; exact byte_eq (k := 92) (by decide) hk
       have hwr : IntKind.i64.wrap ((j : Int) + 1) = (j : Int) + 1 := by rw [IntKind.wrap_i64]; omega
       by_cases h1 : j + 1 < s.length
       ·
        have hbk1 := ba_lt h1
        have h1' : ¬ (s.length : Int) ≤ (j : Int) + 1 := by omega
        have HC1 : Hid (s[j + 1] = ((⟨s.toArray⟩ : ByteArray)[j + 1]'hbk1)) := rfl
        have hix : ∀ W, (Instr.index 9 (tx s) (.int .i64 ((j : Int) + 1))).run Tryz.prog W = .ok (by8 ((⟨s.toArray⟩ : ByteArray)[j + 1]'hbk1)) W := fun W => index_at s (j + 1) hbk1 W
        by_cases d1 : (((⟨s.toArray⟩ : ByteArray)[j + 1]'hbk1).toNat : Int) = 34
        ·
         have HN : Hid (qAt s (j + 2) (l ++ [((⟨s.toArray⟩ : ByteArray)[j + 1]'hbk1)])) := qAt_back h1 hj1 HR.out hk2 (Or.inl (by rw [HC1.out]; exact byte_eq (k := 34) (by decide) d1))
         have d1' : ((((⟨s.toArray⟩ : ByteArray)[j + 1]'hbk1).toNat : Int) == 34) = true := beq_iff_eq.2 d1
         have d1n : ((((⟨s.toArray⟩ : ByteArray)[j + 1]'hbk1).toNat : Int) != 34) = false := by rw [bne, d1']; rfl
         clear HR hq hq1 hk hk2 hcv d1 HC HC1
         have ho1 := ho.later (bal (Below.refl _ _) (.cells #[by8 ((⟨s.toArray⟩ : ByteArray)[j + 1]'hbk1)] 5))
         have hbo := bal hb (.cells #[by8 ((⟨s.toArray⟩ : ByteArray)[j + 1]'hbk1)] 5)
         go_wp2_with (at_builtin; go_must (refine wpList_append_own _ rfl _ _ 63 rfl w.heap.size 5 i0 (.int .u8 0) 1 1 Tryz.underlying63 hi hz0 hz1 hz2 rfl (by decide) _ _ _ rfl ho1 ⟨wr.heap.size, 0, none⟩ 1 1 [by8 ((⟨s.toArray⟩ : ByteArray)[j + 1]'hbk1)] rfl rfl (one_cell (World.cell?_alloc_new wr _ _ 0)) (fun u hu => by cases hu with | head => rfl | tail _ h => cases h) ?h63 ?hby ?hbs ?_))
         case h63 => unfold maxLen; omega
         case hby => omega
         case hbs => have := hb.size; simp; omega
         intro v' w2 ho4 hg4 _
         go_wp2
         go_roundw
         case rel => exact ⟨j + 2, _, l ++ [((⟨s.toArray⟩ : ByteArray)[j + 1]'hbk1)], by omega, by omega, by simp; omega, by go_num, rfl, OwnB.snoc ho4, HN, hbo.grown hg4 hbo.size (fun k hk => (World.ownsRow.lt ho1 k hk).1)⟩
         case measure => simp [intOf]; omega
        ·
         have d1' : ((((⟨s.toArray⟩ : ByteArray)[j + 1]'hbk1).toNat : Int) == 34) = false := beq_eq_false_iff_ne.2 d1
         have d1n : ((((⟨s.toArray⟩ : ByteArray)[j + 1]'hbk1).toNat : Int) != 34) = true := by rw [bne, d1']; rfl
         by_cases d2 : (((⟨s.toArray⟩ : ByteArray)[j + 1]'hbk1).toNat : Int) = 92
         ·
          have HN : Hid (qAt s (j + 2) (l ++ [((⟨s.toArray⟩ : ByteArray)[j + 1]'hbk1)])) := qAt_back h1 hj1 HR.out hk2 (Or.inr (by rw [HC1.out]; exact byte_eq (k := 92) (by decide) d2))
          have d2' : ((((⟨s.toArray⟩ : ByteArray)[j + 1]'hbk1).toNat : Int) == 92) = true := beq_iff_eq.2 d2
          have d2n : ((((⟨s.toArray⟩ : ByteArray)[j + 1]'hbk1).toNat : Int) != 92) = false := by rw [bne, d2']; rfl
          clear HR hq hq1 hk hk2 hcv d1 d2 HC HC1
          have ho1 := ho.later (bal (Below.refl _ _) (.cells #[by8 ((⟨s.toArray⟩ : ByteArray)[j + 1]'hbk1)] 5))
          have hbo := bal hb (.cells #[by8 ((⟨s.toArray⟩ : ByteArray)[j + 1]'hbk1)] 5)
          go_wp2_with (at_builtin; go_must (refine wpList_append_own _ rfl _ _ 63 rfl w.heap.size 5 i0 (.int .u8 0) 1 1 Tryz.underlying63 hi hz0 hz1 hz2 rfl (by decide) _ _ _ rfl ho1 ⟨wr.heap.size, 0, none⟩ 1 1 [by8 ((⟨s.toArray⟩ : ByteArray)[j + 1]'hbk1)] rfl rfl (one_cell (World.cell?_alloc_new wr _ _ 0)) (fun u hu => by cases hu with | head => rfl | tail _ h => cases h) ?h63 ?hby ?hbs ?_))
          case h63 => unfold maxLen; omega
          case hby => omega
          case hbs => have := hb.size; simp; omega
          intro v' w2 ho4 hg4 _
          go_wp2
          go_roundw
          case rel => exact ⟨j + 2, _, l ++ [((⟨s.toArray⟩ : ByteArray)[j + 1]'hbk1)], by omega, by omega, by simp; omega, by go_num, rfl, OwnB.snoc ho4, HN, hbo.grown hg4 hbo.size (fun k hk => (World.ownsRow.lt ho1 k hk).1)⟩
          case measure => simp [intOf]; omega
         ·
          have d2' : ((((⟨s.toArray⟩ : ByteArray)[j + 1]'hbk1).toNat : Int) == 92) = false := beq_eq_false_iff_ne.2 d2
          have d2n : ((((⟨s.toArray⟩ : ByteArray)[j + 1]'hbk1).toNat : Int) != 92) = true := by rw [bne, d2']; rfl
          have HQ : Hid (qText s = [] ∧ qLen s = 0) := q_none (qAt_none HR.out (by
           rw [List.drop_eq_getElem_cons hlt, List.drop_eq_getElem_cons h1, hk2]
           refine qd_back_no _ ?_
           rintro (e | e)
           ·
            exact byte_ne (k := 34) (by decide) d1 (by rw [← HC1.out, e]; rfl)
           ·
            exact byte_ne (k := 92) (by decide) d2 (by rw [← HC1.out, e]; rfl)))
          clear HR hq hq1 hk hk2 hcv d1 d2 HC HC1
          go_wp2_with fail
          go_ret2
          exact ⟨by rw [HQ.out.1, HQ.out.2]; rfl, hb⟩
       ·
        have h1' : (s.length : Int) ≤ (j : Int) + 1 := by omega
        have HQ : Hid (qText s = [] ∧ qLen s = 0) := q_none (qAt_none HR.out (by
         rw [List.drop_eq_getElem_cons hlt, List.drop_of_length_le (by omega), hk2]
         rfl))
        clear HR hq hq1 hk hk2 hcv HC
        go_wp2_with fail
        go_ret2
        exact ⟨by rw [HQ.out.1, HQ.out.2]; rfl, hb⟩
      ·
       have hk' : ((((⟨s.toArray⟩ : ByteArray)[j]'hbk).toNat : Int) == 92) = false := beq_eq_false_iff_ne.2 hk
       by_cases hl : (((⟨s.toArray⟩ : ByteArray)[j]'hbk).toNat : Int) = 10
       ·
        have hl' : ((((⟨s.toArray⟩ : ByteArray)[j]'hbk).toNat : Int) == 10) = true := beq_iff_eq.2 hl
        have HQ : Hid (qText s = [] ∧ qLen s = 0) := q_none (qAt_none HR.out (by
         rw [List.drop_eq_getElem_cons hlt, show s[j] = 10 by rw [HC.out]; exact byte_eq (k := 10) (by decide) hl]
         exact qd_line _))
        clear HR hq hq1 hk hl hcv HC
        go_wp2_with fail
        go_ret2
        exact ⟨by rw [HQ.out.1, HQ.out.2]; rfl, hb⟩
       ·
        have hl' : ((((⟨s.toArray⟩ : ByteArray)[j]'hbk).toNat : Int) == 10) = false := beq_eq_false_iff_ne.2 hl
        have HN : Hid (qAt s (j + 1) (l ++ [((⟨s.toArray⟩ : ByteArray)[j]'hbk)])) := qAt_plain hlt hj1 HR.out (by rw [HC.out]; exact hq1) (by rw [HC.out]; exact byte_ne (k := 92) (by decide) hk) (by rw [HC.out]; exact byte_ne (k := 10) (by decide) hl)
        clear HR hq hq1 hk hl hcv HC
        have ho1 := ho.later (bal (Below.refl _ _) (.cells #[by8 ((⟨s.toArray⟩ : ByteArray)[j]'hbk)] 5))
        have hbo := bal hb (.cells #[by8 ((⟨s.toArray⟩ : ByteArray)[j]'hbk)] 5)
        go_wp2_with (at_builtin; go_must (refine wpList_append_own _ rfl _ _ 63 rfl w.heap.size 5 i0 (.int .u8 0) 1 1 Tryz.underlying63 hi hz0 hz1 hz2 rfl (by decide) _ _ _ rfl ho1 ⟨wr.heap.size, 0, none⟩ 1 1 [by8 ((⟨s.toArray⟩ : ByteArray)[j]'hbk)] rfl rfl (one_cell (World.cell?_alloc_new wr _ _ 0)) (fun u hu => by cases hu with | head => rfl | tail _ h => cases h) ?h63 ?hby ?hbs ?_))
        case h63 => unfold maxLen; omega
        case hby => omega
        case hbs => have := hb.size; simp; omega
        intro v' w2 ho4 hg4 _
        go_wp2
        go_roundw
        case rel => exact ⟨j + 1, _, l ++ [((⟨s.toArray⟩ : ByteArray)[j]'hbk)], by omega, by omega, by simp; omega, by go_num, rfl, OwnB.snoc ho4, HN, hbo.grown hg4 hbo.size (fun k hk => (World.ownsRow.lt ho1 k hk).1)⟩
        case measure => simp [intOf]; omega
    ·
     have HQ : Hid (qText s = [] ∧ qLen s = 0) := q_none (qAt_none HR.out (by rw [List.drop_of_length_le (by omega)]; rfl))
     clear HR hcv
     go_wp2_with fail
     go_ret2
     exact ⟨by rw [HQ.out.1, HQ.out.2]; rfl, hb⟩
  ·
   have HQ : Hid (qText s = [] ∧ qLen s = 0) := q_not (by
    rw [HH.out]
    intro e
    exact byte_ne (k := 34) (by decide) hq0 (Option.some.inj e))
   have hq0' : ((((⟨s.toArray⟩ : ByteArray)[0]'hb0).toNat : Int) == 34) = false := beq_eq_false_iff_ne.2 hq0
   have hq0n : ((((⟨s.toArray⟩ : ByteArray)[0]'hb0).toNat : Int) != 34) = true := by rw [bne, hq0']; rfl
   clear hq0 HH
   go_enter Tryz.func106, Tryz.ntmps106
   go_wp2_with fail
   go_ret2
   exact ⟨by rw [HQ.out.1, HQ.out.2]; rfl, Below.refl _ _⟩
end Go.Proofs.YteankdaegdhfiaaGreatDoor
