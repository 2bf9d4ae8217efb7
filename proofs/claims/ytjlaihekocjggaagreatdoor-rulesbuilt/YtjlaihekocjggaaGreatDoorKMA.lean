/- Texts that the others lean on. -/
import Derived.Shelf.Strings.OnBuilder
import Derived.Shelf.Strings.Replace
import Derived.Test.YtjlaihekocjggaaGreatDoorProg
import Derived.Lib.Bytealg
import Derived.Lib.Index
import Derived.Lib.Replace
import Derived.Lib.SplitLaws
import Derived.Lib.IndexLaws
import Derived.Lib.Join
import Derived.Lib.Strings
import Derived.WalkKit
import Derived.WalkSpells
import Derived.WalkLawsBesides
import Derived.Deep.RegionHeld3
import Derived.BigQuiet
import Derived.Laws.StructEq
set_option maxHeartbeats 16000000
namespace Go.Proofs
open Go.Shelf
def Tryz.lays156_ren:Go.Shelf.Ren:=⟨fun | 156=>147 | 165=>220 | 166=>65 | 169=>66 | 240=>117 | 241=>274 | 276=>192 | 277=>317 | n=>n,fun | 31=>25 | 9=>9 | 3=>3 | 4=>4 | 0=>0 | 20=>20 | 72=>103 | 76=>107 | 70=>101 | 37=>55 | 75=>106 | 127=>154 | 164=>222 | 5=>5 | 80=>109 | n=>n,fun | n=>n⟩
theorem Tryz.lays156:Go.Proofs.Lays.n156 Tryz.prog Tryz.lays156_ren:={
 mixed:=by kernel_rfl
 f156:=Tryz.func147.trans (congrArg some (by kernel_rfl))
 f165:=Tryz.func220.trans (congrArg some (by kernel_rfl))
 f166:=Tryz.func65.trans (congrArg some (by kernel_rfl))
 f169:=Tryz.func66.trans (congrArg some (by kernel_rfl))
 f240:=Tryz.func117.trans (congrArg some (by kernel_rfl))
 f241:=Tryz.func274.trans (congrArg some (by kernel_rfl))
 f276:=Tryz.func192.trans (congrArg some (by kernel_rfl))
 f277:=Tryz.func317.trans (congrArg some (by kernel_rfl))
 t0:=Tryz.underlying0
 a0:=Tryz.isAgg0
 z0:=Tryz.sizeOf0
 v0:=Tryz.zeroValue0
 t3:=Tryz.underlying3
 a3:=Tryz.isAgg3
 z3:=Tryz.sizeOf3
 v3:=Tryz.zeroValue3
 t4:=Tryz.underlying4
 a4:=Tryz.isAgg4
 z4:=Tryz.sizeOf4
 v4:=Tryz.zeroValue4
 t9:=Tryz.underlying9
 a9:=Tryz.isAgg9
 z9:=Tryz.sizeOf9
 v9:=Tryz.zeroValue9
 t20:=Tryz.underlying20
 a20:=Tryz.isAgg20
 z20:=Tryz.sizeOf20
 v20:=Tryz.zeroValue20
 t31:=Tryz.underlying25
 a31:=Tryz.isAgg25
 z31:=Tryz.sizeOf25
 v31:=Tryz.zeroValue25
 t37:=Tryz.underlying55
 a37:=Tryz.isAgg55
 z37:=Tryz.sizeOf55
 v37:=Tryz.zeroValue55
 t70:=Tryz.underlying101
 a70:=Tryz.isAgg101
 z70:=Tryz.sizeOf101
 v70:=Tryz.zeroValue101
 t72:=Tryz.underlying103
 a72:=Tryz.isAgg103
 z72:=Tryz.sizeOf103
 v72:=Tryz.zeroValue103
 t75:=Tryz.underlying106
 a75:=Tryz.isAgg106
 z75:=Tryz.sizeOf106
 v75:=Tryz.zeroValue106
 t76:=Tryz.underlying107
 a76:=Tryz.isAgg107
 z76:=Tryz.sizeOf107
 v76:=Tryz.zeroValue107
 t127:=Tryz.underlying154
 a127:=Tryz.isAgg154
 z127:=Tryz.sizeOf154
 v127:=Tryz.zeroValue154
 t164:=Tryz.underlying222
 a164:=Tryz.isAgg222
 z164:=Tryz.sizeOf222
 v164:=Tryz.zeroValue222 }
theorem Tryz.Builder_Extra_156:Builder.Extra Tryz.prog Tryz.lays156_ren:={
 sizeBuilder:=by kernel_rfl
 liesBuilder:=by kernel_rfl
 t5:=Tryz.underlying5
 a5:=Tryz.isAgg5
 z5:=Tryz.sizeOf5
 v5:=Tryz.zeroValue5
 infoByte:=by kernel_rfl
 cellsByte:=by kernel_rfl
 sizeByte:=by kernel_rfl
 neB5:=by decide }
open Go.RowKit in
theorem Tryz.strings_Join_none (a:Option Addr) (c:Nat) (sep:ByteArray) (w:World) :
  Calls Tryz.prog 147 #[.slice a 0 c,.string sep] w fun e w'=>e = .returned (.string ⟨#[]⟩) ∧ w' = w:=Any.strings_Join_none Tryz.lays156 Tryz.Builder_Extra_156 a c sep w
open Go.RowKit in
theorem Tryz.strings_Join (bk o c:Nat) (xs:List ByteArray) (sep:ByteArray) (w:World) (hcells:∀ (j:Nat) x,xs[j]? = some x → w.cell? ⟨bk,o + j,none⟩ = some (.string x)) (hbk:bk < w.heap.size) (hN:xs.length ≤ 140737488355328) (hcap:xs.length ≤ c) (hlen:(Lib.join (xs.map (·.data.toList)) sep.data.toList).length ≤ 140737488355328) :
  Calls Tryz.prog 147 #[.slice (some ⟨bk,o,none⟩) xs.length c,.string sep] w fun e w'=>e = .returned (.string ⟨(Lib.join (xs.map (·.data.toList)) sep.data.toList).toArray⟩) ∧ Below w.heap.size w w':=Any.strings_Join Tryz.lays156 Tryz.Builder_Extra_156 bk o c xs sep w hcells hbk hN hcap hlen
def Tryz.lays155_ren:Go.Shelf.Ren:=⟨fun | 155=>301 | 154=>348 | 138=>163 | 165=>220 | 143=>164 | 166=>65 | 197=>230 | 169=>66 | 195=>229 | 218=>231 | 240=>117 | 241=>274 | 219=>232 | 260=>276 | 276=>192 | 277=>317 | 217=>277 | 225=>278 | 224=>279 | 267=>280 | 266=>318 | 314=>319 | n=>n,fun | 9=>9 | 3=>3 | 4=>4 | 72=>103 | 0=>0 | 76=>107 | 105=>251 | 21=>21 | 5=>5 | 70=>101 | 20=>20 | 37=>55 | 75=>106 | 127=>154 | 164=>222 | 46=>130 | 119=>307 | 139=>310 | 138=>309 | 146=>311 | 51=>195 | 80=>109 | n=>n,fun | 1=>0 | 3=>2 | 4=>3 | n=>n⟩
theorem Tryz.lays155:Go.Proofs.Lays.n155 Tryz.prog Tryz.lays155_ren:={
 mixed:=by kernel_rfl
 f138:=Tryz.func163.trans (congrArg some (by kernel_rfl))
 f143:=Tryz.func164.trans (congrArg some (by kernel_rfl))
 f154:=Tryz.func348.trans (congrArg some (by kernel_rfl))
 f155:=Tryz.func301.trans (congrArg some (by kernel_rfl))
 f165:=Tryz.func220.trans (congrArg some (by kernel_rfl))
 f166:=Tryz.func65.trans (congrArg some (by kernel_rfl))
 f169:=Tryz.func66.trans (congrArg some (by kernel_rfl))
 f195:=Tryz.func229.trans (congrArg some (by kernel_rfl))
 f197:=Tryz.func230.trans (congrArg some (by kernel_rfl))
 f217:=Tryz.func277.trans (congrArg some (by kernel_rfl))
 f218:=Tryz.func231.trans (congrArg some (by kernel_rfl))
 f219:=Tryz.func232.trans (congrArg some (by kernel_rfl))
 f224:=Tryz.func279.trans (congrArg some (by kernel_rfl))
 f225:=Tryz.func278.trans (congrArg some (by kernel_rfl))
 f240:=Tryz.func117.trans (congrArg some (by kernel_rfl))
 f241:=Tryz.func274.trans (congrArg some (by kernel_rfl))
 f260:=Tryz.func276.trans (congrArg some (by kernel_rfl))
 f266:=Tryz.func318.trans (congrArg some (by kernel_rfl))
 f267:=Tryz.func280.trans (congrArg some (by kernel_rfl))
 f276:=Tryz.func192.trans (congrArg some (by kernel_rfl))
 f277:=Tryz.func317.trans (congrArg some (by kernel_rfl))
 f314:=Tryz.func319.trans (congrArg some (by kernel_rfl))
 t0:=Tryz.underlying0
 a0:=Tryz.isAgg0
 z0:=Tryz.sizeOf0
 v0:=Tryz.zeroValue0
 t3:=Tryz.underlying3
 a3:=Tryz.isAgg3
 z3:=Tryz.sizeOf3
 v3:=Tryz.zeroValue3
 t4:=Tryz.underlying4
 a4:=Tryz.isAgg4
 z4:=Tryz.sizeOf4
 v4:=Tryz.zeroValue4
 t5:=Tryz.underlying5
 a5:=Tryz.isAgg5
 z5:=Tryz.sizeOf5
 v5:=Tryz.zeroValue5
 t9:=Tryz.underlying9
 a9:=Tryz.isAgg9
 z9:=Tryz.sizeOf9
 v9:=Tryz.zeroValue9
 t20:=Tryz.underlying20
 a20:=Tryz.isAgg20
 z20:=Tryz.sizeOf20
 v20:=Tryz.zeroValue20
 t21:=Tryz.underlying21
 a21:=Tryz.isAgg21
 z21:=Tryz.sizeOf21
 v21:=Tryz.zeroValue21
 t37:=Tryz.underlying55
 a37:=Tryz.isAgg55
 z37:=Tryz.sizeOf55
 v37:=Tryz.zeroValue55
 t46:=Tryz.underlying130
 a46:=Tryz.isAgg130
 z46:=Tryz.sizeOf130
 v46:=Tryz.zeroValue130
 t51:=Tryz.underlying195
 a51:=Tryz.isAgg195
 z51:=Tryz.sizeOf195
 v51:=Tryz.zeroValue195
 t70:=Tryz.underlying101
 a70:=Tryz.isAgg101
 z70:=Tryz.sizeOf101
 v70:=Tryz.zeroValue101
 t72:=Tryz.underlying103
 a72:=Tryz.isAgg103
 z72:=Tryz.sizeOf103
 v72:=Tryz.zeroValue103
 t75:=Tryz.underlying106
 a75:=Tryz.isAgg106
 z75:=Tryz.sizeOf106
 v75:=Tryz.zeroValue106
 t76:=Tryz.underlying107
 a76:=Tryz.isAgg107
 z76:=Tryz.sizeOf107
 v76:=Tryz.zeroValue107
 t105:=Tryz.underlying251
 a105:=Tryz.isAgg251
 z105:=Tryz.sizeOf251
 v105:=Tryz.zeroValue251
 t119:=Tryz.underlying307
 a119:=Tryz.isAgg307
 z119:=Tryz.sizeOf307
 t127:=Tryz.underlying154
 a127:=Tryz.isAgg154
 z127:=Tryz.sizeOf154
 v127:=Tryz.zeroValue154
 t138:=Tryz.underlying309
 a138:=Tryz.isAgg309
 z138:=Tryz.sizeOf309
 v138:=Tryz.zeroValue309
 t139:=Tryz.underlying310
 a139:=Tryz.isAgg310
 z139:=Tryz.sizeOf310
 v139:=Tryz.zeroValue310
 t146:=Tryz.underlying311
 a146:=Tryz.isAgg311
 z146:=Tryz.sizeOf311
 v146:=Tryz.zeroValue311
 t164:=Tryz.underlying222
 a164:=Tryz.isAgg222
 z164:=Tryz.sizeOf222
 v164:=Tryz.zeroValue222
 g1:=by kernel_rfl
 g3:=by kernel_rfl
 g4:=by kernel_rfl }
theorem Tryz.Builder_Extra_155:Builder.Extra Tryz.prog Tryz.lays155_ren:={
 sizeBuilder:=by kernel_rfl
 liesBuilder:=by kernel_rfl
 t5:=Tryz.underlying5
 a5:=Tryz.isAgg5
 z5:=Tryz.sizeOf5
 v5:=Tryz.zeroValue5
 infoByte:=by kernel_rfl
 cellsByte:=by kernel_rfl
 sizeByte:=by kernel_rfl
 neB5:=by decide }
open Go.RowKit Go.Lib in
theorem Tryz.strings_ReplaceAll (s old new:ByteArray) (m:Int) (w:World) (hs:s.size < 4294967281) (hm:w.cell? ⟨0,0,none⟩ = some (.int .i64 m)) (h1:1 ≤ old.size) (hlen:s.size + Lib.countB s old * new.size ≤ 140737488355328) :
  Calls Tryz.prog 301 #[.string s,.string old,.string new] w fun e w'=>
   e = .returned (.string ⟨(Lib.replaceAll s.data.toList old.data.toList new.data.toList).toArray⟩) ∧ Below w.heap.size w w':=Any.strings_ReplaceAll Tryz.lays155 Tryz.Builder_Extra_155 s old new m w hs hm h1 hlen
end Go.Proofs
namespace Go.Proofs.YtjlaihekocjggaaGreatDoor
open Go.RowKit
abbrev Str:=List UInt8
abbrev Pr:=Str × Str
/-! ### Texts, byte by byte -/
theorem zeq (a:Str):¬ a < a:=List.lt_irrefl a
theorem zdg {a b c:Str} (h:a < b) (k:b < c):a < c:=List.lt_trans h k
theorem ziv {a b:Str} (h:a < b):¬ b < a:=List.lt_asymm h
theorem zft {a b:Str} (h:¬ a < b) (k:¬ b < a):a = b:=List.le_antisymm (List.not_lt.1 k) (List.not_lt.1 h)
theorem less_eq (a b:Str):Go.Op.bytesLess a b = decide (a < b):=by
 induction a generalizing b with
 | nil=>cases b <;> simp [Go.Op.bytesLess]
 | cons x a ih=>
  cases b with
  | nil=>simp [Go.Op.bytesLess]
  | cons y b=>
   rw [Go.Op.bytesLess,ih]
   by_cases h:x < y
   ·
    simp [h,List.cons_lt_cons_iff]
   by_cases e:x = y
   ·
    subst e;simp
   simp [h,e,List.cons_lt_cons_iff]
theorem cmpB_eq (a b:Str):Lib.compareBytes a b = if a < b then -1 else if b < a then 1 else 0:=by
 induction a generalizing b with
 | nil=>cases b <;> simp [Lib.compareBytes]
 | cons x a ih=>
  cases b with
  | nil=>simp [Lib.compareBytes]
  | cons y b=>
   rw [Lib.compareBytes,ih]
   by_cases h:x < y
   ·
    simp [h,List.cons_lt_cons_iff]
   by_cases h2:y < x
   ·
    have hne:x ≠ y:=fun e=>by subst e;exact h h2
    simp [h,h2,List.cons_lt_cons_iff,hne]
   have e:x = y:=UInt8.le_antisymm (UInt8.not_lt.1 h2) (UInt8.not_lt.1 h)
   subst e
   simp
theorem cmpB_lt (a b:Str):decide (Lib.compareBytes a b < 0) = decide (a < b):=by
 rw [cmpB_eq]
 by_cases h:a < b
 ·
  simp [h]
 by_cases k:b < a <;> simp [h,k]
/-! ### Names, values, sets -/
def digB (c:UInt8):Bool:=decide (48 ≤ c.toNat) && decide (c.toNat ≤ 57)
def letB (c:UInt8):Bool:=decide (97 ≤ c.toNat) && decide (c.toNat ≤ 122) || decide (65 ≤ c.toNat) && decide (c.toNat ≤ 90)
def nameCh (c:UInt8):Bool:=digB c || letB c || decide (c.toNat = 95)
def fName (s:Str):Bool:=decide (1 ≤ s.length) && decide (s.length ≤ 20) && !digB (s.headD 0) && s.all nameCh
def fVal (s:Str):Bool:=decide (1 ≤ s.length) && decide (s.length ≤ 30) && !s.contains 10
def okAt (l:List Pr) (i:Nat):Bool:=fName (l.getD i ([],[])).1 && fVal (l.getD i ([],[])).2 && (decide (i = 0) || decide ((l.getD (i - 1) ([],[])).1 < (l.getD i ([],[])).1))
def fIs (l:List Pr):Bool:=decide (l.length ≤ 8) && (List.range l.length).all (okAt l)
def rises (l:List Pr):Prop:=l.Pairwise (fun a b=>a.1 < b.1)
theorem zms {l:List Pr} (h:∀ i,0 < i → i < l.length → (l.getD (i - 1) ([],[])).1 < (l.getD i ([],[])).1):rises l:=by
 unfold rises
 induction l with
 | nil=>exact List.Pairwise.nil
 | cons a l ih=>
  have ih':=ih (fun i h0 h1=>by
   have:=h (i + 1) (by omega) (by simp;omega)
   obtain ⟨j,rfl⟩:∃ j,i = j + 1:=⟨i - 1,by omega⟩
   simpa using this)
  cases l with
  | nil=>simp
  | cons b r=>
   have h1:=h 1 (by omega) (by simp)
   simp at h1
   rw [List.pairwise_cons]
   refine ⟨fun x hx=>?_,ih'⟩
   rcases List.mem_cons.1 hx with rfl | hx
   ·
    exact h1
   exact zdg h1 ((List.pairwise_cons.1 ih').1 x hx)
theorem rises_at {l:List Pr} (h:rises l) {i j:Nat} (hij:i < j) (hj:j < l.length):(l.getD i ([],[])).1 < (l.getD j ([],[])).1:=by
 unfold rises at h
 rw [List.pairwise_iff_getElem] at h
 have:=h i j (by omega) hj hij
 simpa [List.getD,List.getElem?_eq_getElem hj,List.getElem?_eq_getElem (show i < l.length by omega)] using this
theorem is_iff (l:List Pr):fIs l = true ↔ l.length ≤ 8 ∧ (∀ p ∈ l,fName p.1 = true ∧ fVal p.2 = true) ∧ rises l:=by
 unfold fIs
 rw [Bool.and_eq_true,decide_eq_true_iff,List.all_eq_true]
 constructor
 ·
  rintro ⟨h1,h2⟩
  have h3:∀ i,i < l.length → okAt l i = true:=fun i hi=>h2 i (List.mem_range.2 hi)
  refine ⟨h1,?_,zms fun i h0 hi=>?_⟩
  ·
   intro p hp
   obtain ⟨i,hi,rfl⟩:=List.mem_iff_getElem.1 hp
   have:=h3 i hi
   unfold okAt at this
   simp [List.getD,List.getElem?_eq_getElem hi] at this
   exact this.1
  have:=h3 i hi
  unfold okAt at this
  simp only [Bool.and_eq_true,Bool.or_eq_true,decide_eq_true_iff] at this
  rcases this.2 with h | h
  ·
   omega
  exact h
 rintro ⟨h1,h2,h3⟩
 refine ⟨h1,fun i hi=>?_⟩
 have hi':=List.mem_range.1 hi
 have hm:=h2 l[i] (List.getElem_mem hi')
 unfold okAt
 simp only [Bool.and_eq_true,Bool.or_eq_true,decide_eq_true_iff]
 refine ⟨by simpa [List.getD,List.getElem?_eq_getElem hi'] using hm,?_⟩
 by_cases h0:i = 0
 ·
  exact Or.inl h0
 exact Or.inr (rises_at h3 (by omega) hi')
theorem zcx {l:List Pr} (h:rises l):(l.map (·.1)).Nodup:=by
 unfold rises at h
 rw [List.Nodup,List.pairwise_map]
 exact h.imp fun {a b} hab e=>by rw [e] at hab;exact zeq _ hab
theorem zff {l:List Pr} (h:rises l) (p:Pr → Bool):rises (l.filter p):=List.Pairwise.filter p h
/-! ### Sorted by name: one row, where no name comes twice -/
def ins (p:Pr):List Pr → List Pr
 | []=>[p]
 | q :: r=>if q.1 < p.1 then q :: ins p r else p :: q :: r
def srt:List Pr → List Pr
 | []=>[]
 | p :: r=>ins p (srt r)
theorem zne (p:Pr) (l:List Pr):(ins p l).Perm (p :: l):=by
 induction l with
 | nil=>exact List.Perm.refl _
 | cons q r ih=>
  rw [ins]
  split
  ·
   exact (List.Perm.cons q ih).trans (List.Perm.swap p q r)
  exact List.Perm.refl _
theorem zcw (l:List Pr):(srt l).Perm l:=by
 induction l with
 | nil=>exact List.Perm.refl _
 | cons p r ih=>exact (zne p (srt r)).trans (List.Perm.cons p ih)
def sortedN (l:List Pr):Prop:=l.Pairwise (fun a b=>¬ b.1 < a.1)
theorem zoq (p:Pr) {l:List Pr} (h:sortedN l):sortedN (ins p l):=by
 unfold sortedN at *
 induction l with
 | nil=>simp [ins]
 | cons q r ih=>
  rw [ins]
  split
  ·
   rename_i hq
   rw [List.pairwise_cons] at h ⊢
   refine ⟨fun x hx=>?_,ih h.2⟩
   rcases List.mem_cons.1 ((zne p r).mem_iff.1 hx) with rfl | hx
   ·
    exact ziv hq
   exact h.1 x hx
  rename_i hq
  rw [List.pairwise_cons]
  refine ⟨fun x hx=>?_,h⟩
  rw [List.pairwise_cons] at h
  rcases List.mem_cons.1 hx with rfl | hx
  ·
   exact hq
  intro hlt
  have h1:=h.1 x hx
  -- q ≤ x < p, yet p ≤ q
  by_cases e:q.1 = x.1
  ·
   rw [e] at hq;exact hq hlt
  have:q.1 < x.1:=by
   by_cases k:q.1 < x.1
   ·
    exact k
   exact absurd (zft k h1) e
  exact hq (zdg this hlt)
theorem zgw (l:List Pr):sortedN (srt l):=by
 induction l with
 | nil=>exact List.Pairwise.nil
 | cons p r ih=>exact zoq p ih
theorem zfc {l:List Pr} (h:sortedN l) (hn:(l.map (·.1)).Nodup):rises l:=by
 unfold rises
 unfold sortedN at h
 rw [List.Nodup,List.pairwise_map] at hn
 exact (h.and hn).imp fun {a b} ⟨h1,h2⟩=>by
  by_cases k:a.1 < b.1
  ·
   exact k
  exact absurd (zft k h1) h2
theorem zje {l m:List Pr} (hp:l.Perm m) (hl:rises l) (hm:rises m):l = m:=by
 unfold rises at *
 induction l generalizing m with
 | nil=>exact (List.nil_perm.1 hp).symm
 | cons a l ih=>
  cases m with
  | nil=>exact absurd (List.perm_nil.1 hp) (by simp)
  | cons b m=>
   rw [List.pairwise_cons] at hl hm
   have e:a = b:=by
    have ha:a ∈ b :: m:=hp.mem_iff.1 (List.mem_cons_self)
    have hb:b ∈ a :: l:=hp.mem_iff.2 (List.mem_cons_self)
    rcases List.mem_cons.1 ha with rfl | ha
    ·
     rfl
    rcases List.mem_cons.1 hb with rfl | hb
    ·
     rfl
    exact absurd (hl.1 b hb) (ziv (hm.1 a ha))
   subst e
   rw [ih (List.Perm.cons_inv hp) hl.2 hm.2]
theorem srt_of {l m:List Pr} (hp:m.Perm l) (hm:rises m):srt l = m:=by
 have hn:((srt l).map (·.1)).Nodup:=(((zcw l).trans hp.symm).map (·.1)).nodup_iff.2 (zcx hm)
 exact zje ((zcw l).trans hp.symm) (zfc (zgw l) hn) hm
theorem srt_rises {l:List Pr} (h:rises l):srt l = l:=srt_of (List.Perm.refl _) h
/-! ### Make, Get, With, Keep, Without, Cmp -/
def twice (l:List Pr):Bool:=!decide (l.map (·.1)).Nodup
def full (l:List Pr):List Pr:=l.filter fun p=>!p.2.isEmpty
def makeE (l:List Pr):Int:=if twice l = true then 31 else if fIs (srt (full l)) = true then 0 else 30
def makeL (l:List Pr):List Pr:=if makeE l = 0 then srt (full l) else []
def fGet (l:List Pr) (n:Str):Str:=((l.find? fun p=>decide (p.1 = n)).map (·.2)).getD []
def nm:Str:=[95,95,110,97,109,101,95,95]
def fWithout (l:List Pr) (names:List Str):List Pr:=l.filter fun p=>!decide (p.1 = nm) && !names.contains p.1
/-! ### Escaped -/
def escC (c:UInt8):Str:=if c = 92 ∨ c = 34 then [92,c] else [c]
def esc (v:Str):Str:=v.flatMap escC
theorem zcc (x c:UInt8) (s:Str):Lib.index (x :: s) [c] = if x = c then 0 else if Lib.index s [c] = -1 then -1 else Lib.index s [c] + 1:=by
 rw [Lib.index]
 by_cases h:x = c
 ·
  subst h;simp [List.isPrefixOf]
 have h':¬ c = x:=fun e=>h e.symm
 simp [List.isPrefixOf,h,h']
theorem zkz (c:UInt8) (new:Str) (s:Str):Lib.replaceK [c] new (Lib.count s [c]) s = s.flatMap fun x=>if x = c then new else [x]:=by
 induction s with
 | nil=>
  have:Lib.count ([]:Str) [c] = 0:=by rw [Lib.count_one];rfl
  rw [this];rfl
 | cons x s ih=>
  rw [List.flatMap_cons,← ih]
  by_cases h:x = c
  ·
   subst h
   rw [Lib.count_one,List.count_cons_self,← Lib.count_one]
   rw [Lib.replaceK_hit _ _ _ _ 0 (by rw [zcc];simp)]
   simp
  rw [if_neg h]
  have hc:Lib.count (x :: s) [c] = Lib.count s [c]:=Lib.count_cons_ne x c s h
  rw [hc]
  cases hk:Lib.count s [c] with
  | zero=>simp [Lib.replaceK]
  | succ k=>
   obtain ⟨i,hi⟩:=Lib.index_of_count (s:=s) (old:=[c]) (by omega)
   rw [Lib.replaceK_hit _ _ _ _ i hi]
   have hi':Lib.index (x :: s) [c] = (i + 1:Nat):=by
    rw [zcc,if_neg h,if_neg (by omega),hi];simp
   rw [Lib.replaceK_hit _ _ _ _ (i + 1) hi']
   simp
theorem zbg (c:UInt8) (new:Str) (s:Str) (hne:[c] ≠ new):Lib.replaceAll s [c] new = s.flatMap fun x=>if x = c then new else [x]:=by
 unfold Lib.replaceAll Lib.replace Lib.replaceNum
 rw [if_neg (by simpa using hne),if_pos (by omega)]
 exact zkz c new s
theorem esc_eq (v:Str):Lib.replaceAll (Lib.replaceAll v [92] [92,92]) [34] [92,34] = esc v:=by
 rw [zbg _ _ _ (by simp),zbg _ _ _ (by simp)]
 unfold esc
 induction v with
 | nil=>rfl
 | cons x v ih=>
  simp only [List.flatMap_cons,List.flatMap_append]
  rw [ih]
  congr 1
  unfold escC
  by_cases h:x = 92
  ·
   subst h;rfl
  by_cases h2:x = 34
  ·
   subst h2;rfl
  simp [h,h2]
theorem zez (v:Str):(esc v).length ≤ 2 * v.length:=by
 unfold esc
 induction v with
 | nil=>simp
 | cons x v ih=>
  rw [List.flatMap_cons,List.length_append]
  have:(escC x).length ≤ 2:=by unfold escC;split <;> simp
  rw [List.length_cons];omega
/-! ### Printed -/
def metric (l:List Pr):Str:=if fName (fGet l nm) = true then fGet l nm else []
def others (l:List Pr):List Pr:=if fName (fGet l nm) = true then fWithout l [] else l
def pairT (p:Pr):Str:=p.1 ++ [61,34] ++ esc p.2 ++ [34]
def inner (l:List Pr):Str:=Lib.join (l.map pairT) [44]
def fPrint (l:List Pr):Str:=if fIs l = true then (if metric l ≠ [] ∧ others l = [] then metric l else metric l ++ [123] ++ inner (others l) ++ [125]) else []
/-! ### Read -/
def rdVal:Str → Str × Str
 | []=>([],[])
 | c :: r=>if c = 34 then ([],r) else if c = 92 then (match r with
   | []=>([92],[])
   | d :: t=>(d :: (rdVal t).1,(rdVal t).2)) else (c :: (rdVal r).1,(rdVal r).2)
def rdPairs:Nat → Str → List Pr
 | 0,_=>[]
 | k + 1,s=>if (Lib.cut s [61,34]).2.2 = true then ((Lib.cut s [61,34]).1,(rdVal (Lib.cut s [61,34]).2.1).1) :: rdPairs k (Lib.trimPrefix (rdVal (Lib.cut s [61,34]).2.1).2 [44]) else []
def rdAll (s:Str):List Pr:=(if (Lib.cut s [123]).1 = [] then [] else [(nm,(Lib.cut s [123]).1)]) ++ rdPairs ((Lib.cut s [123]).2.1.length + 1) (Lib.cut s [123]).2.1
def okParse (s:Str):Bool:=decide (makeE (rdAll s) = 0) && decide (fPrint (makeL (rdAll s)) = s)
def parseE (s:Str):Int:=if okParse s = true then 0 else 30
def parseL (s:Str):List Pr:=if okParse s = true then makeL (rdAll s) else []
theorem zjg (s:Str):(rdVal s).1.length + (rdVal s).2.length ≤ s.length:=by
 induction s using rdVal.induct with
 | case1=>simp [rdVal]
 | case2 r=>rw [rdVal.eq_def];simp
 | case3 h1=>rw [rdVal.eq_def];simp
 | case4 d t h1 ih=>rw [rdVal.eq_def];simp;omega
 | case5 c r h1 h2 ih=>rw [rdVal.eq_def];simp [h1,h2];omega
/-! ### Cut at the first sign -/
theorem zcz {s:Str} (h:fName s = true):1 ≤ s.length ∧ s.length ≤ 20:=by
 unfold fName at h
 simp only [Bool.and_eq_true,decide_eq_true_iff] at h
 exact h.1.1
theorem znp {s:Str} {c:UInt8} {r:Str} (hs:∀ x ∈ s,x ≠ c):Lib.cut s (c :: r) = (s,[],false):=by
 have hi:Lib.index s (c :: r) = -1:=by
  refine Lib.index_none fun j hj=>?_
  unfold Lib.occAt
  by_cases h:j < s.length
  ·
   rw [List.drop_eq_getElem_cons h]
   have:=hs s[j] (List.getElem_mem h)
   have h':¬ c = s[j]:=fun e=>this e.symm
   simp [List.isPrefixOf,h']
  rw [List.drop_eq_nil_of_le (by omega)];rfl
 unfold Lib.cut
 rw [hi,if_neg (by omega)]
/-! ### What is printed is read -/
theorem inner_one (p:Pr):inner [p] = pairT p:=by simp [inner,Lib.join_one]
theorem zor (p q:Pr) (l:List Pr):inner (p :: q :: l) = pairT p ++ ([44] ++ inner (q :: l)):=by
 unfold inner
 simp only [List.map_cons]
 rw [Lib.join_cons,Lib.join_cons]
 simp [Lib.joinTail]
theorem get_mem {l:List Pr} {n:Str} (h:fGet l n ≠ []):(n,fGet l n) ∈ l:=by
 unfold fGet at *
 cases hf:l.find? fun p=>decide (p.1 = n) with
 | none=>rw [hf] at h;exact absurd rfl h
 | some p=>
  have h1:=List.mem_of_find?_eq_some hf
  have h2:=List.find?_some hf
  simp at h2
  have:p = (n,p.2):=by rw [← h2]
  rw [this] at h1
  exact h1
theorem zky {k:IntKind} {a b:Int} (h:a = b):Ending.returned (.int k a) = .returned (.int k b):=by rw [h]
theorem zdl {a b:Bool} (h:a = b):Ending.returned (.bool a) = .returned (.bool b):=by rw [h]
theorem Below.chain {a b c:World} (h:Below a.heap.size a b) (k:Below b.heap.size b c):Below a.heap.size a c:=h.trans (k.mono h.size)
theorem bal {a w:World} (h:Below a.heap.size a w) (o:Obj):Below a.heap.size a (w.alloc o):=h.alloc h.size o
theorem zau (l:Str):(⟨l.toArray⟩:ByteArray).size = l.length:=by show l.toArray.size = _;simp
theorem zed {l:Str} {k:Nat} (h:k < l.length):k < (⟨l.toArray⟩:ByteArray).size:=by rw [zau];exact h
theorem zci (l:Str) (k:Nat) (h:k < l.length):l.take (k + 1) = l.take k ++ [l[k]]:=List.take_succ_eq_append_getElem h
theorem zgb (c:UInt8) (w:World):Calls Tryz.prog 221 #[.int .u8 c.toNat] w fun e w'=>e = .returned (.bool (digB c)) ∧ w = w':=by
 unfold digB
 go_enter Tryz.func221,Tryz.ntmps221
 go_wp2
 all_goals
  go_ret
  exact ⟨zdl (by rw [Bool.eq_iff_iff];simp;omega),rfl⟩
theorem zjr (c:UInt8) (w:World):Calls Tryz.prog 222 #[.int .u8 c.toNat] w fun e w'=>e = .returned (.bool (letB c)) ∧ w = w':=by
 unfold letB
 go_enter Tryz.func222,Tryz.ntmps222
 go_wp2
 all_goals
  go_ret
  exact ⟨zdl (by rw [Bool.eq_iff_iff];simp;omega),rfl⟩
theorem all_snoc (l:Str) (c:UInt8) (f:UInt8 → Bool):(l ++ [c]).all f = (l.all f && f c):=by simp
theorem not_all {l:Str} (k:Nat) (hk:k < l.length) (h:nameCh l[k] = false):l.all nameCh = false:=by
 cases hd:l.all nameCh with
 | false=>rfl
 | true=>rw [List.all_eq_true.1 hd _ (List.getElem_mem hk)] at h;cases h
theorem zbx (l:Str) (w:World) (hl:l.length ≤ 9223372036854775807) :
  Calls Tryz.prog 150 #[.string ⟨l.toArray⟩] w fun e w'=>e = .returned (.bool (fName l)) ∧ w = w':=by
 by_cases h1:1 ≤ l.length
 ·
  have h1':¬ (l.length:Int) < 1:=by omega
  by_cases h2:l.length ≤ 20
  ·
   have h2':¬ (20:Int) < l.length:=by omega
   have hb0:=zed h1
   have hd0:=fun w=>zgb ((⟨l.toArray⟩:ByteArray)[0]'hb0) w
   have hdh:l.headD 0 = (⟨l.toArray⟩:ByteArray)[0]'hb0:=by
    cases l with
    | nil=>cases h1
    | cons c r=>rfl
   have e:fName l = (!digB ((⟨l.toArray⟩:ByteArray)[0]'hb0) && l.all nameCh):=by simp only [fName,h1,h2,hdh,decide_true,Bool.true_and]
   rw [e]
   have HE:Hid (fName l = (!digB ((⟨l.toArray⟩:ByteArray)[0]'hb0) && l.all nameCh)):=e
   clear e hdh
   cases hd:digB ((⟨l.toArray⟩:ByteArray)[0]'hb0) with
   | true=>
    rw [hd] at hd0
    go_enter Tryz.func150,Tryz.ntmps150
    go_wp2_with (go_at_call 221;refine (hd0 _).mono ?_;rintro e w' ⟨rfl,rfl⟩)
    go_ret
    exact ⟨by simp,rfl⟩
   | false=>
    rw [hd] at hd0
    clear hd HE
    go_enter Tryz.func150,Tryz.ntmps150
    go_wp2_with (go_at_call 221;refine (hd0 _).mono ?_;rintro e w' ⟨rfl,rfl⟩)
    go_loop [19] (fun i=>∃ k:Nat,k ≤ l.length ∧ i = .int .i64 k ∧ Hid ((l.take k).all nameCh = true)) (fun i=>l.length - (intOf i).toNat)
    case atStart=>exact ⟨0,by omega,rfl,rfl⟩
    case round=>
     obtain ⟨k,hk,rfl,ha⟩:=hrel
     by_cases hlt:k < l.length
     ·
      have hbk:=zed hlt
      have hdk:=fun w=>zgb ((⟨l.toArray⟩:ByteArray)[k]'hbk) w
      have hlk:=fun w=>zjr ((⟨l.toArray⟩:ByteArray)[k]'hbk) w
      have HC:Hid (nameCh l[k] = (digB ((⟨l.toArray⟩:ByteArray)[k]'hbk) || letB ((⟨l.toArray⟩:ByteArray)[k]'hbk) || decide (((⟨l.toArray⟩:ByteArray)[k]'hbk).toNat = 95))):=rfl
      have HS:Hid ((l.take (k + 1)).all nameCh = nameCh l[k]):=by
       show _ = _
       rw [zci l k hlt,all_snoc,ha.out,Bool.true_and]
      have HN:Hid (nameCh l[k] = false → l.all nameCh = false):=not_all k hlt
      generalize nameCh l[k] = N at *
      cases hdc:digB ((⟨l.toArray⟩:ByteArray)[k]'hbk) with
      | true=>
       rw [hdc] at hdk
       have HT:Hid ((l.take (k + 1)).all nameCh = true):=by show _ = _;rw [HS.out,HC.out,hdc];rfl
       clear hdc
       go_wp2_with (go_at_call 221;refine (hdk _).mono ?_;rintro e w' ⟨rfl,rfl⟩)
       go_round
       case rel=>exact ⟨k + 1,by omega,by go_num,HT⟩
       case measure=>simp [intOf];omega
      | false=>
       rw [hdc] at hdk
       cases hlc:letB ((⟨l.toArray⟩:ByteArray)[k]'hbk) with
       | true=>
        rw [hlc] at hlk
        have HT:Hid ((l.take (k + 1)).all nameCh = true):=by show _ = _;rw [HS.out,HC.out,hdc,hlc];rfl
        clear hdc hlc
        go_wp2_with (first | (go_at_call 221;refine (hdk _).mono ?_;rintro e w' ⟨rfl,rfl⟩) | (go_at_call 222;refine (hlk _).mono ?_;rintro e w' ⟨rfl,rfl⟩))
        go_round
        case rel=>exact ⟨k + 1,by omega,by go_num,HT⟩
        case measure=>simp [intOf];omega
       | false=>
        rw [hlc] at hlk
        by_cases hu:((⟨l.toArray⟩:ByteArray)[k]'hbk).toNat = 95
        ·
         have HT:Hid ((l.take (k + 1)).all nameCh = true):=by show _ = _;rw [HS.out,HC.out,hdc,hlc];simp [hu]
         clear hdc hlc
         have hu':((((⟨l.toArray⟩:ByteArray)[k]'hbk).toNat:Int) != 95) = false:=by rw [bne_eq_false_iff_eq];omega
         clear hu
         go_wp2_with (first | (go_at_call 221;refine (hdk _).mono ?_;rintro e w' ⟨rfl,rfl⟩) | (go_at_call 222;refine (hlk _).mono ?_;rintro e w' ⟨rfl,rfl⟩))
         go_round
         case rel=>exact ⟨k + 1,by omega,by go_num,HT⟩
         case measure=>simp [intOf];omega
        have HF:Hid (l.all nameCh = false):=HN.out (by rw [HC.out,hdc,hlc];simp [hu])
        clear hdc hlc
        have hu':((((⟨l.toArray⟩:ByteArray)[k]'hbk).toNat:Int) != 95) = true:=by rw [bne_iff_ne];omega
        clear hu
        go_wp2_with (first | (go_at_call 221;refine (hdk _).mono ?_;rintro e w' ⟨rfl,rfl⟩) | (go_at_call 222;refine (hlk _).mono ?_;rintro e w' ⟨rfl,rfl⟩))
        go_ret
        exact ⟨by rw [HF.out];rfl,rfl⟩
     have HF:Hid (l.all nameCh = true):=by
      have:=ha.out
      rw [List.take_of_length_le (by omega)] at this
      exact this
     go_wp2_with fail
     go_ret
     exact ⟨by rw [HF.out];rfl,rfl⟩
  have h2':(20:Int) < l.length:=by omega
  have e:fName l = false:=by simp [fName,h2]
  rw [e]
  go_enter Tryz.func150,Tryz.ntmps150
  go_wp2_with fail
  go_ret
  exact ⟨rfl,rfl⟩
 have h1':(l.length:Int) < 1:=by omega
 have e:fName l = false:=by simp [fName,h1]
 rw [e]
 go_enter Tryz.func150,Tryz.ntmps150
 go_wp2_with fail
 go_ret
 exact ⟨rfl,rfl⟩
abbrev tx (s:Str):Value:=.string ⟨s.toArray⟩
theorem zaq {P:Program} {ops:Array Oper} {Q:Exit → Act → World → Prop} {md:Region.Mode} {S:World → Prop} (i:Nat) (d:Option Tmp) (v:Value) {oi:Oper} {fuel:Nat} {listed:Array Bool} {a:Act} {w:World} (hi:ops[i]? = some oi) (hd:oi.dst = d)
  (hs:Region.noSelect ops = true) (hf:Region.free md ops listed i = true) (hr:(Region.ready md ops listed).contains i = true)
  (hQ:∀ c a w,Q (.panic c) (a.put oi.dst v) w → Q (.panic c) a w) (hw:Region.wanted oi (yielded ops a.tmps) = true) (hy:∀ w,S w → (execOp a.eval oi).run P w = .ok (.value v) w) (hS:S w)
  (h:wpAnyH P md ops Q S fuel (listed.setIfInBounds i true) (a.put d v) w):wpAnyH P md ops Q S (fuel + 1) listed a w:=by
 subst hd
 exact wpAnyH_take hi hs hf hr hQ (Or.inl ⟨hw,hy⟩) hS h
theorem tk {P:Program} {ops:Array Oper} {Q:Exit → Act → World → Prop} {md:Region.Mode} {S:World → Prop} (i d:Nat) (v:Value) {oi:Oper} {fuel:Nat} {listed:Array Bool} {a:Act} {w:World} (hi:ops[i]? = some oi) (hy:∀ w,S w → (execOp a.eval oi).run P w = .ok (.value v) w) (hS:S w)
  (h:wpAnyH P md ops Q S fuel (listed.setIfInBounds i true) (a.put (some d) v) w) (hd:oi.dst = some d:=by rfl) (hs:Region.noSelect ops = true:=by kernel_rfl) (hf:Region.free md ops listed i = true:=by kernel_rfl) (hr:(Region.ready md ops listed).contains i = true:=by kernel_rfl)
  (hQ:∀ c a w,Q (.panic c) (a.put oi.dst v) w → Q (.panic c) a w:=by exact fun _ _ _ h=>h) (hw:Region.wanted oi (yielded ops a.tmps) = true:=by rfl):wpAnyH P md ops Q S (fuel + 1) listed a w:=zaq i (some d) v hi hd hs hf hr hQ hw hy hS h
theorem aR {P:Program} {md:Region.Mode} {ops:Array Oper} {Q:Exit → Act → World → Prop} {S:World → Prop} {fuel:Nat} {listed:Array Bool} {a:Act} {w:World} {i:Nat} {o:Oper} (ho:ops[i]? = some o) (h:∀ K':Act → World → Prop,Shut (∀ a w,S w → (S w → wpAnyH P md ops Q S fuel (listed.setIfInBounds i true) a w) → K' a w) → if Region.wanted o (yielded ops a.tmps) = true then Oper.wp P o a w K' Q else K' (a.put o.dst undef) w):AllReadyH P md ops Q S fuel listed a w [i]:=AllReadyH.cons ho h AllReadyH.nil
theorem pB {α:Type} (l:List α) (i:Nat) (a:α):l.toArray.setIfInBounds i a = (l.set i a).toArray:=List.setIfInBounds_toArray l i a
theorem pC {α:Type} (a b:α) (l:List α):(a :: l).set 0 b = b :: l:=rfl
theorem pD {α:Type} (a b:α) (l:List α) (n:Nat):(a :: l).set (n + 1) b = a :: l.set n b:=rfl
theorem zaw {P:Program} {ops:Array Oper} {Q:Exit → Act → World → Prop} {md:Region.Mode} {S:World → Prop} (i:Nat) (d:Option Tmp) {oi:Oper} {fuel:Nat} {listed:Array Bool} {a:Act} {w:World} (hi:ops[i]? = some oi) (hd:oi.dst = d)
  (hs:Region.noSelect ops = true) (hf:Region.free md ops listed i = true) (hr:(Region.ready md ops listed).contains i = true)
  (hQ:∀ c a w,Q (.panic c) (a.put oi.dst undef) w → Q (.panic c) a w) (hw:Region.wanted oi (yielded ops a.tmps) = false) (hS:S w)
  (h:wpAnyH P md ops Q S fuel (listed.setIfInBounds i true) (a.put d undef) w):wpAnyH P md ops Q S (fuel + 1) listed a w:=by
 subst hd
 exact wpAnyH_take hi hs hf hr hQ (Or.inr ⟨hw,rfl⟩) hS h
def Mx (w:World):Prop:=∃ m:Int,w.cell? ⟨0,0,none⟩ = some (.int .i64 m)
theorem Mx.later {w w':World} (h:Mx w) (hb:Below w.heap.size w w'):Mx w':=by
 obtain ⟨m,h⟩:=h
 exact ⟨m,(hb.cell (p:=⟨0,0,none⟩) (World.block_lt_of_cell? _ _ h)).trans h⟩
/-! ### Texts one behind the other -/
def Ss (w:World) (ao:Option Addr) (n:Nat) (l:List Str):Prop:=
 l.length = n ∧ (0 < n → ∃ b off,ao = some ⟨b,off,none⟩ ∧ ∀ j,j < n → w.cell? ⟨b,off + j,none⟩ = some (tx (l.getD j [])))
theorem Ss.later {w w':World} {ao:Option Addr} {n:Nat} {l:List Str} (h:Ss w ao n l) (hb:Below w.heap.size w w'):Ss w' ao n l:=by
 obtain ⟨h1,h4⟩:=h
 refine ⟨h1,fun hp=>?_⟩
 obtain ⟨b,off,e,hc⟩:=h4 hp
 exact ⟨b,off,e,fun j hj=>(hb.cell (p:=⟨b,off + j,none⟩) (World.block_lt_of_cell? _ _ (hc j hj))).trans (hc j hj)⟩
theorem Ss.nil (w:World) (ao:Option Addr):Ss w ao 0 []:=⟨rfl,fun h=>by omega⟩
/-! ### Slices of texts that grow -/
def OwnS (w:World) (base:Nat) (v:Value) (l:List Str):Prop:=w.ownsRow base 9 1 v l.length (l.map tx)
theorem info9:(Tryz.prog.info? 9).map (fun i=>(i.zero,i.size,i.bytes)) = some (some (tx []),1,16):=by kernel_rfl
theorem zbz:∃ i,Tryz.prog.info? 9 = some i ∧ i.zero = some (tx []) ∧ i.size = 1 ∧ i.bytes = 16:=by
 have h:=info9
 cases hi:Tryz.prog.info? 9 with
 | none=>rw [hi] at h;cases h
 | some i=>
  rw [hi] at h
  simp only [Option.map_some,Option.some.injEq,Prod.mk.injEq] at h
  exact ⟨i,rfl,h.1,h.2.1,h.2.2⟩
theorem OwnS.later {w w':World} {base:Nat} {v:Value} {l:List Str} (h:OwnS w base v l) (hb:Below w.heap.size w w'):OwnS w' base v l:=by
 refine ⟨h.1,?_⟩
 rcases h.2 with h0 | ⟨g,cap,cur,hv,hg0,hg,hn,hm,hs,ht⟩
 ·
  exact Or.inl h0
 have hlt:g < w.heap.size:=by
  by_cases hlt:g < w.heap.size
  ·
   exact hlt
  rw [Array.getElem?_eq_none (by omega)] at hg;cases hg
 exact Or.inr ⟨g,cap,cur,hv,hg0,(hb.block g hlt).trans hg,hn,hm,hs,ht⟩
theorem OwnS.snoc {w:World} {base:Nat} {v:Value} {l:List Str} {p:Str} (h:w.ownsRow base 9 1 v (l.length + 1) (l.map tx ++ [tx p])):OwnS w base v (l ++ [p]):=by
 unfold OwnS
 rw [List.map_append,List.length_append]
 exact h
theorem OwnS.slice {w:World} {base:Nat} {v:Value} {l:List Str} (h:OwnS w base v l):∃ ao cap,v = .slice ao l.length cap ∧ Ss w ao l.length l ∧ l.length ≤ cap ∧ (0 < l.length → ∃ g,ao = some ⟨g,0,none⟩ ∧ g < w.heap.size):=by
 rcases h.2 with ⟨rfl,h0⟩ | ⟨g,cap,cur,rfl,hb,hg,hn,_,hs,ht⟩
 ·
  have:l = []:=List.length_eq_zero_iff.1 h0
  subst this
  exact ⟨none,0,rfl,Ss.nil _ _,Nat.le_refl _,fun h=>by simp at h⟩
 have hlt:g < w.heap.size:=by
  by_cases hlt:g < w.heap.size
  ·
   exact hlt
  rw [Array.getElem?_eq_none (by omega)] at hg;cases hg
 refine ⟨_,cap,rfl,⟨rfl,fun _=>⟨g,0,rfl,fun j hj=>?_⟩⟩,hn,fun _=>⟨g,rfl,hlt⟩⟩
 rw [cell_of_row _ _ _ _ _ _ hg,Nat.zero_add]
 have e:(cur.toList.take (l.length * 1))[j]? = (l.map tx)[j]?:=by rw [ht]
 rw [List.getElem?_take_of_lt (by omega)] at e
 rw [← Array.getElem?_toList,e]
 simp [List.getD,List.getElem?_eq_getElem hj]
theorem zbq {ops:Array Oper} {o:Oper} {a:Act} {W:World} {K:Act → World → Prop} {Q:Exit → Act → World → Prop} {E:Prop} (s x:Operand) (d:Option Tmp) (t:TypeId)
  (ho:o.op = .call { callee:=.builtin .append,args:=#[s,x],argTypes:=#[t,t] }) (hd:o.dst = d) (hw:Region.wanted o (yielded ops a.tmps) = true)
  (base:Nat) (e:TypeId) (i:TypeInfo) (z:Value) (size bytes:Nat) (ht:Tryz.prog.underlying t = some (.slice e)) (hi:Tryz.prog.info? e = some i) (hz:i.zero = some z)
  (hsize:i.size = size) (hby:i.bytes = bytes) (hzs:z.cells.size = size) (hsz:0 < size)
  (v:Value) (n:Nat) (xs:List Value) (hs:a.eval s = v) (hown:W.ownsRow base e size v n xs)
  (ad:Addr) (m c:Nat) (news:List Value) (hx:a.eval x = .slice (some ad) m c) (hl:news.length = m * size) (hnews:∀ j u,news[j]? = some u → W.cell? (ad.add j) = some u) (h1:∀ u ∈ news,u.oneCell' = true)
  (h63:n + m ≤ maxLen) (hbytes:(n + m) * bytes ≤ 140737488355328) (hbase:base ≤ W.heap.size)
  (h:∀ v' w',w'.ownsRow base e size v' (n + m) (xs ++ news) → W.grownBy w' v.ownBlock → K (a.put d v') w') :
  if Region.wanted o (yielded ops a.tmps) = true then Oper.wp Tryz.prog o a W K Q else E:=by
 subst hd
 rw [if_pos hw]
 exact wp_append_own W s x t ho base e i z size bytes ht hi hz hsize hby hzs hsz v n xs hs hown ad m c news hx hl hnews h1 h63 hbytes hbase fun v' w' h2 h3 _=>h v' w' h2 h3
theorem znq (s:Str) (c:UInt8):Lib.count s [c] ≤ s.length:=by
 rw [Lib.count_one]
 exact List.count_le_length
theorem zcy (s:Str) (c:UInt8) (new:Str) (w:World) (hs:s.length ≤ 1000000) (hn:new.length = 2) (hne:[c] ≠ new) (hm:Mx w) :
  Calls Tryz.prog 301 #[tx s,.string ⟨#[c]⟩,tx new] w fun e w'=>e = .returned (tx (s.flatMap fun x=>if x = c then new else [x])) ∧ Below w.heap.size w w':=by
 obtain ⟨m,hm⟩:=hm
 have hb:Lib.countB (⟨s.toArray⟩:ByteArray) ⟨#[c]⟩ ≤ s.length:=znq s c
 have e2:(⟨new.toArray⟩:ByteArray).size = 2:=by rw [zau,hn]
 refine (Tryz.strings_ReplaceAll ⟨s.toArray⟩ ⟨#[c]⟩ ⟨new.toArray⟩ m w (by rw [zau];omega) hm (Nat.le_refl 1) (by rw [zau,e2];omega)).mono ?_
 rintro e w' ⟨rfl,hb⟩
 refine ⟨?_,hb⟩
 rw [← zbg c new s hne]
theorem esc_two (v:Str):(v.flatMap fun x=>if x = 92 then [92,92] else [x]).flatMap (fun x=>if x = 34 then [92,34] else [x]) = esc v:=by
 rw [← esc_eq,zbg _ _ _ (by simp),zbg _ _ _ (by simp)]
theorem zdc (v:Str):(v.flatMap fun x=>if x = 92 then [92,92] else [x]).length ≤ 2 * v.length:=by
 induction v with
 | nil=>simp
 | cons x v ih=>
  rw [List.flatMap_cons,List.length_append,List.length_cons]
  have:(if x = 92 then ([92,92]:Str) else [x]).length ≤ 2:=by split <;> simp
  omega
theorem zie (v:Value) (base:Nat) (l:List Str) (w:World) (ho:OwnS w base v l) (hl:(Lib.join l [32]).length ≤ 1000000) (hN:l.length ≤ 1000000) :
  Calls Tryz.prog 147 #[v,.string ⟨#[32]⟩] w fun e w'=>e = .returned (tx (Lib.join l [32])) ∧ Below w.heap.size w w':=by
 obtain ⟨ao,cap,rfl,hs,hc,hb⟩:=ho.slice
 by_cases h0:l.length = 0
 ·
  obtain rfl:l = []:=List.length_eq_zero_iff.1 h0
  refine (Tryz.strings_Join_none ao cap ⟨#[32]⟩ w).mono ?_
  rintro e w' ⟨rfl,rfl⟩
  exact ⟨rfl,Below.refl _ _⟩
 have hpos:0 < l.length:=Nat.pos_of_ne_zero h0
 obtain ⟨g,rfl,hlt⟩:=hb hpos
 obtain ⟨_,h4⟩:=hs
 obtain ⟨b,off,e,hcell⟩:=h4 hpos
 cases e
 have em:(l.map fun s=>(⟨s.toArray⟩:ByteArray)).map (·.data.toList) = l:=by
  rw [List.map_map]
  conv=>rhs;rw [← List.map_id l]
  apply List.map_congr_left
  intro s _
  simp
 have h:=Tryz.strings_Join g 0 cap (l.map fun s=>(⟨s.toArray⟩:ByteArray)) ⟨#[32]⟩ w (fun j x hx=>by
  rw [List.getElem?_map] at hx
  cases hj:l[j]? with
  | none=>rw [hj] at hx;cases hx
  | some s=>
   rw [hj] at hx
   cases hx
   have hlt:j < l.length:=by
    by_cases h:j < l.length
    ·
     exact h
    rw [List.getElem?_eq_none (by omega)] at hj;cases hj
   rw [hcell j hlt,List.getD,hj]
   rfl) hlt (by simp;omega) (by simpa using hc) (by rw [em];show (Lib.join l [32]).length ≤ _;omega)
 rw [em] at h
 simp only [List.length_map] at h
 exact h.mono fun e w' ⟨he,hb⟩=>⟨he,hb⟩
theorem zbc (x y:List UInt8):(⟨x.toArray⟩:ByteArray) ++ ⟨y.toArray⟩ = ⟨(x ++ y).toArray⟩:=by
 apply ByteArray.ext
 simp
theorem zam {P:Program} {a:Act} {o:Oper} {x y:Operand} {t u:TypeId} (ho:o.op = .binOp .add t x y u) (s r:Str) (hx:a.eval x = tx s) (hy:a.eval y = tx r) (hl:s.length + r.length ≤ 8388608) (q:Str) (hq:q = s ++ r) (w:World):(execOp a.eval o).run P w = .ok (.value (tx q)) w:=by
 subst hq
 unfold execOp
 simp only [ho,hx,hy]
 simp only [binOp_string_add,Sem.run_bind,Sem.run_pure]
 go_simp
 rw [if_neg (by omega),zbc]
theorem zbk {w:World} {b:Nat} {v:Value} (h:w.cell? ⟨b,0,none⟩ = some v):∀ j u,[v][j]? = some u → w.cell? ((⟨b,0,none⟩:Addr).add j) = some u:=by
 intro j u hu
 rw [Addr.add_lit,Nat.zero_add]
 match j,hu with
 | 0,hu=>rw [h];exact hu
 | j + 1,hu=>simp at hu
theorem info5:(Tryz.prog.info? 5).map (fun i=>(i.zero,i.size,i.bytes)) = some (some (.int .u8 0),1,1):=by kernel_rfl
theorem zgf:∃ i,Tryz.prog.info? 5 = some i ∧ i.zero = some (.int .u8 0) ∧ i.size = 1 ∧ i.bytes = 1:=by
 have h:=info5
 cases hi:Tryz.prog.info? 5 with
 | none=>rw [hi] at h;cases h
 | some i=>
  rw [hi] at h
  simp only [Option.map_some,Option.some.injEq,Prod.mk.injEq] at h
  exact ⟨i,rfl,h.1,h.2.1,h.2.2⟩
abbrev by8 (c:UInt8):Value:=.int .u8 (c.toNat:Int)
def OwnB (w:World) (base:Nat) (v:Value) (l:Str):Prop:=w.ownsRow base 5 1 v l.length (l.map by8)
theorem OwnB.later {w w':World} {base:Nat} {v:Value} {l:Str} (h:OwnB w base v l) (hb:Below w.heap.size w w'):OwnB w' base v l:=by
 refine ⟨h.1,?_⟩
 rcases h.2 with h0 | ⟨g,cap,cur,hv,hg0,hg,hn,hm,hs,ht⟩
 ·
  exact Or.inl h0
 have hlt:g < w.heap.size:=by
  by_cases hlt:g < w.heap.size
  ·
   exact hlt
  rw [Array.getElem?_eq_none (by omega)] at hg;cases hg
 exact Or.inr ⟨g,cap,cur,hv,hg0,(hb.block g hlt).trans hg,hn,hm,hs,ht⟩
theorem OwnB.snoc {w:World} {base:Nat} {v:Value} {l:Str} {c:UInt8} (h:w.ownsRow base 5 1 v (l.length + 1) (l.map by8 ++ [by8 c])):OwnB w base v (l ++ [c]):=by
 unfold OwnB
 rw [List.map_append,List.length_append]
 exact h
theorem OwnB.string {w:World} {base:Nat} {v:Value} {l:Str} (h:OwnB w base v l):∀ W,Below w.heap.size w W → (convert 55 9 v).run Tryz.prog W = .ok (tx l) W:=by
 intro W hW
 rcases (h.later hW).2 with ⟨rfl,h0⟩ | ⟨g,cap,cur,rfl,hb,hg,hn,_,hs,ht⟩
 ·
  obtain rfl:l = []:=List.length_eq_zero_iff.1 h0
  exact run_convert_bytes_nil W 55 5 Tryz.underlying55 Tryz.underlying5 0 0 9 Tryz.underlying9
 refine run_convert_bytes_back W 55 9 5 ⟨g,0,none⟩ cap l Tryz.underlying55 Tryz.underlying5 Tryz.underlying9 (fun j hj=>?_)
 rw [Addr.add_lit,cell_of_row _ _ _ _ _ _ hg,Nat.zero_add]
 have e:(cur.toList.take (l.length * 1))[j]? = (l.map by8)[j]?:=by rw [ht]
 rw [List.getElem?_take_of_lt (by omega)] at e
 rw [← Array.getElem?_toList,e]
 simp [List.getElem?_eq_getElem hj]
theorem zey (s:Str) (k:Nat):(⟨s.toArray⟩:ByteArray).extract k s.length = ⟨(s.drop k).toArray⟩:=by
 rw [Lib.extract_eq]
 congr 2
 exact List.take_of_length_le (by simp)
theorem znf (s:Str) (k:Nat) (h:k < (⟨s.toArray⟩:ByteArray).size) (W:World):(Instr.index 9 (tx s) (.int .i64 (k:Int))).run Tryz.prog W = .ok (by8 ((⟨s.toArray⟩:ByteArray)[k]'h)) W:=by
 have hk:k < s.length:=by rw [zau] at h;exact h
 have u9:=Tryz.underlying9
 go_simp
theorem zcb {c:UInt8} {k:Nat} (hk:k < 256) (h:(c.toNat:Int) = k):c = UInt8.ofNat k:=by
 apply UInt8.toNat_inj.1
 rw [UInt8.toNat_ofNat_of_lt' (by simpa using hk)]
 omega
theorem zcg {c:UInt8} {k:Nat} (hk:k < 256) (h:¬ (c.toNat:Int) = k):c ≠ UInt8.ofNat k:=by
 intro e
 rw [e,UInt8.toNat_ofNat_of_lt' (by simpa using hk)] at h
 exact h rfl
def qd:Str → Option (Str × Nat)
 | []=>none
 | [c]=>if c = 34 then some ([],1) else none
 | c :: d :: r=>
  if c = 34 then some ([],1)
  else if c = 92 then (if d = 34 ∨ d = 92 then (qd r).map fun x=>(d :: x.1,x.2 + 2) else none)
  else if c = 10 then none
  else (qd (d :: r)).map fun x=>(c :: x.1,x.2 + 1)
theorem zmw (r:Str):qd (34 :: r) = some ([],1):=by
 cases r with
 | nil=>rfl
 | cons d r=>rw [qd,if_pos rfl]
theorem zmx {c:UInt8} (r:Str) (h1:c ≠ 34) (h2:c ≠ 92) (h3:c ≠ 10):qd (c :: r) = (qd r).map fun x=>(c :: x.1,x.2 + 1):=by
 cases r with
 | nil=>
  show (if c = 34 then some ([],1) else none) = none
  rw [if_neg h1]
 | cons d r=>rw [qd,if_neg h1,if_neg h2,if_neg h3]
theorem qd_back {d:UInt8} (r:Str) (h:d = 34 ∨ d = 92):qd (92 :: d :: r) = (qd r).map fun x=>(d :: x.1,x.2 + 2):=by
 rw [qd,if_neg (by decide),if_pos rfl,if_pos h]
theorem zhb {d:UInt8} (r:Str) (h:¬ (d = 34 ∨ d = 92)):qd (92 :: d :: r) = none:=by
 rw [qd,if_neg (by decide),if_pos rfl,if_neg h]
theorem qd_line (r:Str):qd (10 :: r) = none:=by
 cases r with
 | nil=>rfl
 | cons d r=>rw [qd,if_neg (by decide),if_neg (by decide),if_pos rfl]
def qAt (s:Str) (i:Nat) (b:Str):Prop:=qd (s.drop 1) = (qd (s.drop i)).map fun x=>(b ++ x.1,(i - 1) + x.2)
theorem qAt_start (s:Str):qAt s 1 []:=by
 unfold qAt
 cases qd (s.drop 1) <;> simp
theorem qAt_plain {s b:Str} {i:Nat} (h:i < s.length) (h0:1 ≤ i) (hq:qAt s i b) (h1:s[i] ≠ 34) (h2:s[i] ≠ 92) (h3:s[i] ≠ 10):qAt s (i + 1) (b ++ [s[i]]):=by
 unfold qAt at *
 rw [hq,List.drop_eq_getElem_cons h,zmx _ h1 h2 h3]
 cases qd (s.drop (i + 1)) with
 | none=>rfl
 | some x=>simp;omega
theorem zmy {s b:Str} {i:Nat} (h:i + 1 < s.length) (h0:1 ≤ i) (hq:qAt s i b) (h1:s[i] = 92) (h2:s[i + 1] = 34 ∨ s[i + 1] = 92):qAt s (i + 2) (b ++ [s[i + 1]]):=by
 unfold qAt at *
 rw [hq,List.drop_eq_getElem_cons (show i < s.length by omega),List.drop_eq_getElem_cons h,h1,qd_back _ h2]
 cases qd (s.drop (i + 1 + 1)) with
 | none=>rfl
 | some x=>simp;omega
theorem qAt_end {s b:Str} {i:Nat} (h:i < s.length) (h0:1 ≤ i) (hq:qAt s i b) (h1:s[i] = 34):qd (s.drop 1) = some (b,i):=by
 unfold qAt at hq
 rw [hq,List.drop_eq_getElem_cons h,h1,zmw]
 simp
 omega
theorem zfo {s b:Str} {i:Nat} (hq:qAt s i b) (h:qd (s.drop i) = none):qd (s.drop 1) = none:=by
 unfold qAt at hq
 rw [hq,h]
 rfl
end Go.Proofs.YtjlaihekocjggaaGreatDoor
