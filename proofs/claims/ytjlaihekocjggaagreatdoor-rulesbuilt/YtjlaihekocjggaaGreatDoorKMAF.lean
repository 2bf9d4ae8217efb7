/- Texts that the others lean on. -/
import Derived.Test.YtjlaihekocjggaaGreatDoorProg
import Derived.WalkKit
import Derived.WalkSpells
import Derived.WalkLawsBesides
import Derived.Deep.RegionHeld3
import Derived.Laws.Externs
import Derived.Shelf.Strings.Trim
import Derived.Shelf.Small.Bits
import Derived.Shelf.Small.Wraps
import Derived.Shelf.Strconv.Itoa1
import Derived.Shelf.LaysM
import Derived.Shelf.Strconv.Itoa2
import Derived.Shelf.Strings.Search2
import Derived.Shelf.Bits.Mul64
import Derived.Lib.ItoaMem
import Derived.Lib.Walk
import Derived.BigCall
import Derived.BigGuard
import Derived.Lib.BitFns
import Derived.BigQuiet
import Derived.Deep.CutBlock
import Derived.Laws.Bits64b
set_option maxHeartbeats 16000000
namespace Go.Proofs.YtjlaihekocjggaaGreatDoor.Fx
def cnt (o:Bool) (n:Int):Option Int:=if o = true ∨ n = -9223372036854775808 then none else some n
def ov:Option Int → Bool
 | none=>true
 | some _=>false
def nn:Option Int → Int
 | none=>0
 | some n=>n
def V (r:Option Int):Prop:=-9223372036854775807 ≤ nn r ∧ nn r ≤ 9223372036854775807
def norm (x:Int):Option Int:=if -9223372036854775807 ≤ x ∧ x ≤ 9223372036854775807 then some x else none
def fIs (o:Bool) (n:Int):Bool:=if o = true then decide (n = 0) else decide (-9223372036854775807 ≤ n)
def fAdd:Option Int → Option Int → Option Int
 | some a,some b=>norm (a + b)
 | _,_=>none
def fNeg:Option Int → Option Int
 | some a=>some (-a)
 | none=>none
def oadd:Option Int → Option Int → Option Int
 | some a,some b=>some (a + b)
 | _,_=>none
def sumL:List (Option Int) → Option Int
 | []=>some 0
 | x :: r=>oadd x (sumL r)
def fSum (l:List (Option Int)):Option Int:=match sumL l with
 | some a=>norm a
 | none=>none
theorem V.none:V none:=⟨by decide,by decide⟩
theorem V.cnt {o:Bool} {n:Int} (h0:-9223372036854775808 ≤ n) (h1:n ≤ 9223372036854775807):V (cnt o n):=by
 unfold YtjlaihekocjggaaGreatDoor.Fx.cnt
 split
 ·
  exact V.none
 rename_i h
 have:¬ n = -9223372036854775808:=fun e=>h (Or.inr e)
 exact ⟨by show _ ≤ n;omega,h1⟩
def lo (s:Int):Int:=s % 18446744073709551616
def hi (s:Int):Int:=s / 18446744073709551616 % 18446744073709551616
def sb (a:Int):Int:=if a < 0 then 18446744073709551615 else 0
open Go.RowKit
theorem pB {α:Type} (l:List α) (i:Nat) (a:α):l.toArray.setIfInBounds i a = (l.set i a).toArray:=List.setIfInBounds_toArray l i a
theorem pC {α:Type} (a b:α) (l:List α):(a :: l).set 0 b = b :: l:=rfl
theorem pD {α:Type} (a b:α) (l:List α) (n:Nat):(a :: l).set (n + 1) b = a :: l.set n b:=rfl
theorem zky {k:IntKind} {a b:Int} (h:a = b):Ending.returned (.int k a) = .returned (.int k b):=by rw [h]
theorem Below.chain {a b c:World} (h:Below a.heap.size a b) (k:Below b.heap.size b c):Below a.heap.size a c:=h.trans (k.mono h.size)
theorem bal {a w:World} (h:Below a.heap.size a w) (o:Obj):Below a.heap.size a (w.alloc o):=h.alloc h.size o
structure Box (w:World) (b:Nat) (o:Bool) (n:Int):Prop where
 c0:w.cell? ⟨b,0,none⟩ = some (.bool o)
 c1:w.cell? ⟨b,1,none⟩ = some (.int .i64 n)
 f0:w.frozen? ⟨b,0,none⟩ = false
 f1:w.frozen? ⟨b,1,none⟩ = false
theorem Box.new (w:World) (o:Bool) (n:Int):Box (w.alloc (.cells #[.bool o,.int .i64 n] 23)) w.heap.size o n:=by
 constructor <;> simp [go_sem]
theorem Box.later {w w':World} {b:Nat} {o:Bool} {n:Int} (h:Box w b o n) (hb:Below w.heap.size w w'):Box w' b o n:=by
 have hl:b < w.heap.size:=World.block_lt_of_cell? _ _ h.c0
 exact ⟨(hb.cell (p:=⟨b,0,none⟩) hl).trans h.c0,(hb.cell (p:=⟨b,1,none⟩) hl).trans h.c1,(hb.frozen (p:=⟨b,0,none⟩) hl).trans h.f0,(hb.frozen (p:=⟨b,1,none⟩) hl).trans h.f1⟩
theorem zbs (w:World):Calls Tryz.prog 205 #[] w fun e w'=>e = .returned (.agg #[.bool true,.int .i64 0]) ∧ Below w.heap.size w w':=by
 go_enter Tryz.func205,Tryz.ntmps205
 go_wp2
 exact bodyPost_ret (v:=.agg #[.bool true,.int .i64 0]) (by simp [results,Tryz.results205,go_sem]) rfl ⟨rfl,bal (Below.refl _ _) _⟩
theorem mag_any (n:Int) (w:World) (h0:-9223372036854775808 ≤ n) (h1:n ≤ 9223372036854775807):Calls Tryz.prog 141 #[.int .i64 n] w fun e w'=>e = .returned (.int .u64 (n.natAbs:Nat)) ∧ w = w':=by
 by_cases h:n < 0
 ·
  go_enter Tryz.func141,Tryz.ntmps141
  go_wp2
  go_ret
  exact ⟨zky (by rw [IntKind.wrap_u64,IntKind.wrap_u64];omega),rfl⟩
 go_enter Tryz.func141,Tryz.ntmps141
 go_wp2
 go_ret
 exact ⟨zky (by omega),rfl⟩
def sgn (minus:Bool) (m:Nat):Option Int:=if 9223372036854775807 < m then none else some (if minus then -(m:Int) else m)
theorem zgx (b:Bool) (m:Nat) (w:World) (hm:m < 18446744073709551616):Calls Tryz.prog 355 #[.bool b,.int .u64 m] w fun e w'=>e = .returned (.agg #[.bool (ov (sgn b m)),.int .i64 (nn (sgn b m))]) ∧ Below w.heap.size w w':=by
 unfold sgn
 by_cases h:9223372036854775807 < m
 ·
  have hd:(9223372036854775807:Int) < m:=by omega
  rw [if_pos h]
  go_enter Tryz.func355,Tryz.ntmps355
  go_wp2_with fail
  refine (zbs _).mono ?_
  rintro e w1 ⟨rfl,hb1⟩
  obtain ⟨c0,c1,f0,f1⟩:=(Box.new w false 0).later hb1
  go_wp2
  exact bodyPost_ret (v:=.agg #[.bool true,.int .i64 0]) (by simp [results,Tryz.results355,go_sem,c0,c1]) rfl ⟨rfl,((Below.chain (bal (Below.refl _ _) _) hb1).setCell (Nat.le_refl _) _).setCell (Nat.le_refl _) _⟩
 have hd:¬ (9223372036854775807:Int) < m:=by omega
 rw [if_neg h]
 have e1:IntKind.i64.wrap (m:Int) = m:=by rw [IntKind.wrap_i64];omega
 have e2:IntKind.i64.wrap (-(m:Int)) = -(m:Int):=by rw [IntKind.wrap_i64];omega
 cases b with
 | true=>
  go_enter Tryz.func355,Tryz.ntmps355
  go_wp2
  exact bodyPost_ret (v:=.agg #[.bool false,.int .i64 (-(m:Int))]) (by simp [results,Tryz.results355,go_sem]) rfl ⟨rfl,bal (Below.refl _ _) _⟩
 | false=>
  go_enter Tryz.func355,Tryz.ntmps355
  go_wp2
  exact bodyPost_ret (v:=.agg #[.bool false,.int .i64 (m:Int)]) (by simp [results,Tryz.results355,go_sem]) rfl ⟨rfl,bal (Below.refl _ _) _⟩
theorem zaq {P:Program} {ops:Array Oper} {Q:Exit → Act → World → Prop} {md:Region.Mode} {S:World → Prop} (i:Nat) (d:Option Tmp) (v:Value) {oi:Oper} {fuel:Nat} {listed:Array Bool} {a:Act} {w:World} (hi:ops[i]? = some oi) (hd:oi.dst = d)
  (hs:Region.noSelect ops = true) (hf:Region.free md ops listed i = true) (hr:(Region.ready md ops listed).contains i = true)
  (hQ:∀ c a w,Q (.panic c) (a.put oi.dst v) w → Q (.panic c) a w) (hw:Region.wanted oi (yielded ops a.tmps) = true) (hy:∀ w,S w → (execOp a.eval oi).run P w = .ok (.value v) w) (hS:S w)
  (h:wpAnyH P md ops Q S fuel (listed.setIfInBounds i true) (a.put d v) w):wpAnyH P md ops Q S (fuel + 1) listed a w:=by
 subst hd
 exact wpAnyH_take hi hs hf hr hQ (Or.inl ⟨hw,hy⟩) hS h
theorem zaw {P:Program} {ops:Array Oper} {Q:Exit → Act → World → Prop} {md:Region.Mode} {S:World → Prop} (i:Nat) (d:Option Tmp) {oi:Oper} {fuel:Nat} {listed:Array Bool} {a:Act} {w:World} (hi:ops[i]? = some oi) (hd:oi.dst = d)
  (hs:Region.noSelect ops = true) (hf:Region.free md ops listed i = true) (hr:(Region.ready md ops listed).contains i = true)
  (hQ:∀ c a w,Q (.panic c) (a.put oi.dst undef) w → Q (.panic c) a w) (hw:Region.wanted oi (yielded ops a.tmps) = false) (hS:S w)
  (h:wpAnyH P md ops Q S fuel (listed.setIfInBounds i true) (a.put d undef) w):wpAnyH P md ops Q S (fuel + 1) listed a w:=by
 subst hd
 exact wpAnyH_take hi hs hf hr hQ (Or.inr ⟨hw,rfl⟩) hS h
theorem ziz {w:World} {a b:Addr} {v:Value} (h:a ≠ b):(w.setCell a v).cell? b = w.cell? b:=by apply World.cell?_setCell_other;exact h
theorem zmm {w:World} {a:Addr} {u v:Value} (h:w.cell? a = some u):(w.setCell a v).cell? a = some v:=by apply World.cell?_setCell_same;exact h
theorem Box.cells {w:World} {b:Nat} {o:Bool} {n:Int} (h:Box w b o n):∀ W,Below w.heap.size w W → W.cell? ⟨b,0,none⟩ = some (.bool o) ∧ W.cell? ⟨b,1,none⟩ = some (.int .i64 n):=fun _ hb=>⟨(h.later hb).c0,(h.later hb).c1⟩
theorem Box.at0 {w:World} {b:Nat} {o:Bool} {n:Int} (h:Box w b o n):∀ W,Below w.heap.size w W → W.cell? ⟨b,0,none⟩ = some (.bool o):=fun _ hb=>(h.later hb).c0
theorem Box.at1 {w:World} {b:Nat} {o:Bool} {n:Int} (h:Box w b o n):∀ W,Below w.heap.size w W → W.cell? ⟨b,1,none⟩ = some (.int .i64 n):=fun _ hb=>(h.later hb).c1
theorem Box.put {w:World} {b:Nat} {o p:Bool} {n m:Int} (h:Box w b o n):Box ((w.setCell ⟨b,0,none⟩ (.bool p)).setCell ⟨b,1,none⟩ (.int .i64 m)) b p m:=by
 obtain ⟨c0,c1,f0,f1⟩:=h
 constructor
 ·
  rw [ziz (by intro e;cases e),zmm c0]
 ·
  rw [zmm ((ziz (by intro e;cases e)).trans c1)]
 ·
  simpa using f0
 simpa using f1
theorem put2 {B:Nat} {a w:World} (h:Below B a w) {b:Nat} (hp:B ≤ b) (p:Bool) (m:Int):Below B a ((w.setCell ⟨b,0,none⟩ (.bool p)).setCell ⟨b,1,none⟩ (.int .i64 m)):=(h.setCell hp _).setCell hp _
theorem Box.lt {w:World} {b:Nat} {o:Bool} {n:Int} (h:Box w b o n):b < w.heap.size:=World.block_lt_of_cell? _ _ h.c0
theorem boxes1 (w:World) (o:Bool) (n:Int):Box ((w.alloc (.cells #[.bool o,.int .i64 n] 23)).alloc (.cells #[.bool false,.int .i64 0] 23)) w.heap.size o n ∧ Box ((w.alloc (.cells #[.bool o,.int .i64 n] 23)).alloc (.cells #[.bool false,.int .i64 0] 23)) (w.heap.size + 1) false 0 ∧ Below w.heap.size w ((w.alloc (.cells #[.bool o,.int .i64 n] 23)).alloc (.cells #[.bool false,.int .i64 0] 23)):=by
 have hsz:(w.alloc (.cells #[.bool o,.int .i64 n] 23)).heap.size = w.heap.size + 1:=by simp
 have hy:=Box.new (w.alloc (.cells #[.bool o,.int .i64 n] 23)) false 0
 rw [hsz] at hy
 exact ⟨(Box.new w o n).later (bal (Below.refl _ _) _),hy,bal (bal (Below.refl _ _) _) _⟩
theorem is_any (o:Bool) (n:Int) (w:World):Calls Tryz.prog 127 #[.agg #[.bool o,.int .i64 n]] w fun e w'=>e = .returned (.bool (fIs o n)) ∧ Below w.heap.size w w':=by
 cases o with
 | true=>
  by_cases hz:n = 0
  ·
   subst hz
   have hx:=Box.new w true 0
   have hb0:Below w.heap.size w (w.alloc (.cells #[.bool true,.int .i64 0] 23)):=bal (Below.refl _ _) _
   go_enter Tryz.func127,Tryz.ntmps127
   go_wp2_with fail
   generalize w.alloc (.cells #[.bool true,.int .i64 0] 23) = w1 at *
   have h0:=hx.at0
   have h1:=hx.at1
   have B2:Below w1.heap.size w1 w1.drew:=(Below.refl _ _).drew
   refine wp_region_noPanic ?_
   refine wp_region_held_drew (S:=fun W=>Below w1.heap.size w1 W) (by kernel_rfl) ?_ (fun _=>?_)
   ·
    exact B2
   refine zaq 0 (some 3) ((.agg #[.bool true,.int .i64 0])) rfl rfl (by kernel_rfl) (by kernel_rfl) (by kernel_rfl) (fun _ _ _ h=>h) (by rfl) (fun W hSw=>by go_simp) B2 ?_
   simp only [Act.put,pB,pC,pD]
   refine wpAnyH_ready (rs:=[1]) (by kernel_rfl) (by simp) ?_
   refine AllReadyH.cons rfl (fun K hK=>?_) AllReadyH.nil
   go_simp
   refine (zbs _).mono ?_
   rintro e w2 ⟨rfl,hb2⟩
   have B3:=Below.chain B2 hb2
   refine hK.out _ _ ?_ (fun _=>?_)
   ·
    exact B3
   clear hK K
   refine zaq 2 (some 5) (.bool true) rfl rfl (by kernel_rfl) (by kernel_rfl) (by kernel_rfl) (fun _ _ _ h=>h) (by rfl) (fun W hSw=>by go_simp) B3 ?_
   simp only [Act.put,pB,pC,pD]
   refine zaq 3 (some 6) (.bool true) rfl rfl (by kernel_rfl) (by kernel_rfl) (by kernel_rfl) (fun _ _ _ h=>h) (by rfl) (fun W hSw=>by go_simp) B3 ?_
   simp only [Act.put,pB,pC,pD]
   refine zaw 4 (some 7) rfl rfl (by kernel_rfl) (by kernel_rfl) (by kernel_rfl) (fun _ _ _ h=>h) (by rfl) B3 ?_
   simp only [Act.put,pB,pC,pD]
   refine zaw 5 (some 8) rfl rfl (by kernel_rfl) (by kernel_rfl) (by kernel_rfl) (fun _ _ _ h=>h) (by rfl) B3 ?_
   simp only [Act.put,pB,pC,pD]
   refine zaw 6 (some 9) rfl rfl (by kernel_rfl) (by kernel_rfl) (by kernel_rfl) (fun _ _ _ h=>h) (by rfl) B3 ?_
   simp only [Act.put,pB,pC,pD]
   refine zaw 7 (some 10) rfl rfl (by kernel_rfl) (by kernel_rfl) (by kernel_rfl) (fun _ _ _ h=>h) (by rfl) B3 ?_
   simp only [Act.put,pB,pC,pD]
   refine zaw 8 (some 11) rfl rfl (by kernel_rfl) (by kernel_rfl) (by kernel_rfl) (fun _ _ _ h=>h) (by rfl) B3 ?_
   simp only [Act.put,pB,pC,pD]
   refine zaw 9 (some 12) rfl rfl (by kernel_rfl) (by kernel_rfl) (by kernel_rfl) (fun _ _ _ h=>h) (by rfl) B3 ?_
   simp only [Act.put,pB,pC,pD]
   refine zaw 10 (some 13) rfl rfl (by kernel_rfl) (by kernel_rfl) (by kernel_rfl) (fun _ _ _ h=>h) (by rfl) B3 ?_
   simp only [Act.put,pB,pC,pD]
   refine zaw 11 (some 14) rfl rfl (by kernel_rfl) (by kernel_rfl) (by kernel_rfl) (fun _ _ _ h=>h) (by rfl) B3 ?_
   simp only [Act.put,pB,pC,pD]
   refine zaq 12 (some 15) (.bool true) rfl rfl (by kernel_rfl) (by kernel_rfl) (by kernel_rfl) (fun _ _ _ h=>h) (by rfl) (fun W hSw=>by go_simp) B3 ?_
   simp only [Act.put,pB,pC,pD]
   refine zaq 13 (some 2) (.bool true) rfl rfl (by kernel_rfl) (by kernel_rfl) (by kernel_rfl) (fun _ _ _ h=>h) (by rfl) (fun W hSw=>by go_simp) B3 ?_
   simp only [Act.put,pB,pC,pD]
   refine wpAnyH_done (by kernel_rfl) ?_ _
   refine NoPanic.normal ?_
   go_wp2
   go_ret
   exact ⟨rfl,Below.chain hb0 B3⟩
  have hf:fIs true n = false:=by simp [fIs,hz]
  rw [hf]
  have hz':decide (n = 0) = false:=decide_eq_false hz
  have hx:=Box.new w true n
  have hb0:Below w.heap.size w (w.alloc (.cells #[.bool true,.int .i64 n] 23)):=bal (Below.refl _ _) _
  go_enter Tryz.func127,Tryz.ntmps127
  go_wp2_with fail
  generalize w.alloc (.cells #[.bool true,.int .i64 n] 23) = w1 at *
  have h0:=hx.at0
  have h1:=hx.at1
  have B2:Below w1.heap.size w1 w1.drew:=(Below.refl _ _).drew
  refine wp_region_noPanic ?_
  refine wp_region_held_drew (S:=fun W=>Below w1.heap.size w1 W) (by kernel_rfl) ?_ (fun _=>?_)
  ·
   exact B2
  refine zaq 0 (some 3) ((.agg #[.bool true,.int .i64 n])) rfl rfl (by kernel_rfl) (by kernel_rfl) (by kernel_rfl) (fun _ _ _ h=>h) (by rfl) (fun W hSw=>by go_simp) B2 ?_
  simp only [Act.put,pB,pC,pD]
  refine wpAnyH_ready (rs:=[1]) (by kernel_rfl) (by simp) ?_
  refine AllReadyH.cons rfl (fun K hK=>?_) AllReadyH.nil
  go_simp
  refine (zbs _).mono ?_
  rintro e w2 ⟨rfl,hb2⟩
  have B3:=Below.chain B2 hb2
  refine hK.out _ _ ?_ (fun _=>?_)
  ·
   exact B3
  clear hK K
  refine zaq 2 (some 5) (.bool false) rfl rfl (by kernel_rfl) (by kernel_rfl) (by kernel_rfl) (fun _ _ _ h=>h) (by rfl) (fun W hSw=>by go_simp) B3 ?_
  simp only [Act.put,pB,pC,pD]
  refine zaq 3 (some 6) (.bool false) rfl rfl (by kernel_rfl) (by kernel_rfl) (by kernel_rfl) (fun _ _ _ h=>h) (by rfl) (fun W hSw=>by go_simp) B3 ?_
  simp only [Act.put,pB,pC,pD]
  refine zaq 4 (some 7) (.pointer (some ⟨w.heap.size,0,none⟩)) rfl rfl (by kernel_rfl) (by kernel_rfl) (by kernel_rfl) (fun _ _ _ h=>h) (by rfl) (fun W hSw=>by go_simp) B3 ?_
  simp only [Act.put,pB,pC,pD]
  refine zaq 5 (some 8) (.bool true) rfl rfl (by kernel_rfl) (by kernel_rfl) (by kernel_rfl) (fun _ _ _ h=>h) (by rfl) (fun W hSw=>by go_simp) B3 ?_
  simp only [Act.put,pB,pC,pD]
  refine zaq 6 (some 9) (.bool false) rfl rfl (by kernel_rfl) (by kernel_rfl) (by kernel_rfl) (fun _ _ _ h=>h) (by rfl) (fun W hSw=>by go_simp) B3 ?_
  simp only [Act.put,pB,pC,pD]
  refine zaq 7 (some 10) (.bool false) rfl rfl (by kernel_rfl) (by kernel_rfl) (by kernel_rfl) (fun _ _ _ h=>h) (by rfl) (fun W hSw=>by go_simp) B3 ?_
  simp only [Act.put,pB,pC,pD]
  refine zaw 8 (some 11) rfl rfl (by kernel_rfl) (by kernel_rfl) (by kernel_rfl) (fun _ _ _ h=>h) (by rfl) B3 ?_
  simp only [Act.put,pB,pC,pD]
  refine zaw 9 (some 12) rfl rfl (by kernel_rfl) (by kernel_rfl) (by kernel_rfl) (fun _ _ _ h=>h) (by rfl) B3 ?_
  simp only [Act.put,pB,pC,pD]
  refine zaw 10 (some 13) rfl rfl (by kernel_rfl) (by kernel_rfl) (by kernel_rfl) (fun _ _ _ h=>h) (by rfl) B3 ?_
  simp only [Act.put,pB,pC,pD]
  refine zaq 11 (some 14) (.bool false) rfl rfl (by kernel_rfl) (by kernel_rfl) (by kernel_rfl) (fun _ _ _ h=>h) (by rfl) (fun W hSw=>by go_simp) B3 ?_
  simp only [Act.put,pB,pC,pD]
  refine zaq 12 (some 15) (.bool false) rfl rfl (by kernel_rfl) (by kernel_rfl) (by kernel_rfl) (fun _ _ _ h=>h) (by rfl) (fun W hSw=>by go_simp) B3 ?_
  simp only [Act.put,pB,pC,pD]
  refine zaq 13 (some 2) (.bool false) rfl rfl (by kernel_rfl) (by kernel_rfl) (by kernel_rfl) (fun _ _ _ h=>h) (by rfl) (fun W hSw=>by go_simp) B3 ?_
  simp only [Act.put,pB,pC,pD]
  refine wpAnyH_done (by kernel_rfl) ?_ _
  refine NoPanic.normal ?_
  go_wp2
  go_ret
  exact ⟨rfl,Below.chain hb0 B3⟩
 | false=>
  show Calls _ _ _ _ fun e w'=>e = .returned (.bool (decide (-9223372036854775807 ≤ n))) ∧ _
  have hx:=Box.new w false n
  have hb0:Below w.heap.size w (w.alloc (.cells #[.bool false,.int .i64 n] 23)):=bal (Below.refl _ _) _
  go_enter Tryz.func127,Tryz.ntmps127
  go_wp2_with fail
  generalize w.alloc (.cells #[.bool false,.int .i64 n] 23) = w1 at *
  have h0:=hx.at0
  have h1:=hx.at1
  have B2:Below w1.heap.size w1 w1.drew:=(Below.refl _ _).drew
  refine wp_region_noPanic ?_
  refine wp_region_held_drew (S:=fun W=>Below w1.heap.size w1 W) (by kernel_rfl) ?_ (fun _=>?_)
  ·
   exact B2
  refine zaq 0 (some 3) ((.agg #[.bool false,.int .i64 n])) rfl rfl (by kernel_rfl) (by kernel_rfl) (by kernel_rfl) (fun _ _ _ h=>h) (by rfl) (fun W hSw=>by go_simp) B2 ?_
  simp only [Act.put,pB,pC,pD]
  refine wpAnyH_ready (rs:=[1]) (by kernel_rfl) (by simp) ?_
  refine AllReadyH.cons rfl (fun K hK=>?_) AllReadyH.nil
  go_simp
  refine (zbs _).mono ?_
  rintro e w2 ⟨rfl,hb2⟩
  have B3:=Below.chain B2 hb2
  refine hK.out _ _ ?_ (fun _=>?_)
  ·
   exact B3
  clear hK K
  refine zaq 2 (some 5) (.bool false) rfl rfl (by kernel_rfl) (by kernel_rfl) (by kernel_rfl) (fun _ _ _ h=>h) (by rfl) (fun W hSw=>by go_simp) B3 ?_
  simp only [Act.put,pB,pC,pD]
  refine zaq 3 (some 6) (.bool false) rfl rfl (by kernel_rfl) (by kernel_rfl) (by kernel_rfl) (fun _ _ _ h=>h) (by rfl) (fun W hSw=>by go_simp) B3 ?_
  simp only [Act.put,pB,pC,pD]
  refine zaq 4 (some 7) (.pointer (some ⟨w.heap.size,0,none⟩)) rfl rfl (by kernel_rfl) (by kernel_rfl) (by kernel_rfl) (fun _ _ _ h=>h) (by rfl) (fun W hSw=>by go_simp) B3 ?_
  simp only [Act.put,pB,pC,pD]
  refine zaq 5 (some 8) (.bool false) rfl rfl (by kernel_rfl) (by kernel_rfl) (by kernel_rfl) (fun _ _ _ h=>h) (by rfl) (fun W hSw=>by go_simp) B3 ?_
  simp only [Act.put,pB,pC,pD]
  refine zaq 6 (some 9) (.bool true) rfl rfl (by kernel_rfl) (by kernel_rfl) (by kernel_rfl) (fun _ _ _ h=>h) (by rfl) (fun W hSw=>by go_simp) B3 ?_
  simp only [Act.put,pB,pC,pD]
  refine zaq 7 (some 10) (.bool true) rfl rfl (by kernel_rfl) (by kernel_rfl) (by kernel_rfl) (fun _ _ _ h=>h) (by rfl) (fun W hSw=>by go_simp) B3 ?_
  simp only [Act.put,pB,pC,pD]
  refine zaq 8 (some 11) (.pointer (some ⟨w.heap.size,1,none⟩)) rfl rfl (by kernel_rfl) (by kernel_rfl) (by kernel_rfl) (fun _ _ _ h=>h) (by rfl) (fun W hSw=>by go_simp) B3 ?_
  simp only [Act.put,pB,pC,pD]
  refine zaq 9 (some 12) (.int .i64 n) rfl rfl (by kernel_rfl) (by kernel_rfl) (by kernel_rfl) (fun _ _ _ h=>h) (by rfl) (fun W hSw=>by go_simp) B3 ?_
  simp only [Act.put,pB,pC,pD]
  refine zaq 10 (some 13) (.bool (decide (-9223372036854775807 ≤ n))) rfl rfl (by kernel_rfl) (by kernel_rfl) (by kernel_rfl) (fun _ _ _ h=>h) (by rfl) (fun W hSw=>by go_simp) B3 ?_
  simp only [Act.put,pB,pC,pD]
  refine zaq 11 (some 14) (.bool (decide (-9223372036854775807 ≤ n))) rfl rfl (by kernel_rfl) (by kernel_rfl) (by kernel_rfl) (fun _ _ _ h=>h) (by rfl) (fun W hSw=>by go_simp) B3 ?_
  simp only [Act.put,pB,pC,pD]
  refine zaq 12 (some 15) (.bool (decide (-9223372036854775807 ≤ n))) rfl rfl (by kernel_rfl) (by kernel_rfl) (by kernel_rfl) (fun _ _ _ h=>h) (by rfl) (fun W hSw=>by go_simp) B3 ?_
  simp only [Act.put,pB,pC,pD]
  refine zaq 13 (some 2) (.bool (decide (-9223372036854775807 ≤ n))) rfl rfl (by kernel_rfl) (by kernel_rfl) (by kernel_rfl) (fun _ _ _ h=>h) (by rfl) (fun W hSw=>by go_simp) B3 ?_
  simp only [Act.put,pB,pC,pD]
  refine wpAnyH_done (by kernel_rfl) ?_ _
  refine NoPanic.normal ?_
  go_wp2
  go_ret
  exact ⟨rfl,Below.chain hb0 B3⟩
theorem is_cnt {o:Bool} {n:Int} (h:fIs o n = true):ov (cnt o n) = o ∧ nn (cnt o n) = n:=by
 cases o with
 | true=>
  have:n = 0:=by simpa [fIs] using h
  subst this
  exact ⟨rfl,rfl⟩
 | false=>
  have:-9223372036854775807 ≤ n:=by simpa [fIs] using h
  unfold cnt
  rw [if_neg (by intro e;rcases e with e | e;cases e;omega)]
  exact ⟨rfl,rfl⟩
theorem isnt_cnt {o:Bool} {n:Int} (h0:-9223372036854775808 ≤ n) (h:fIs o n = false):cnt o n = none:=by
 unfold cnt
 rw [if_pos]
 cases o with
 | true=>exact Or.inl rfl
 | false=>
  have:¬ -9223372036854775807 ≤ n:=by simpa [fIs] using h
  exact Or.inr (by omega)
theorem zgk (o:Bool) (n:Int) (w:World) (h0:-9223372036854775808 ≤ n):Calls Tryz.prog 140 #[.agg #[.bool o,.int .i64 n]] w fun e w'=>e = .returned (.agg #[.bool (ov (cnt o n)),.int .i64 (nn (cnt o n))]) ∧ Below w.heap.size w w':=by
 obtain ⟨hx1,hy,hb2⟩:=boxes1 w o n
 cases hi:fIs o n with
 | true=>
  obtain ⟨e1,e2⟩:=is_cnt hi
  rw [e1,e2]
  go_enter Tryz.func140,Tryz.ntmps140
  go_wp2_with fail
  refine (is_any _ _ _).mono ?_
  rintro e w1 ⟨rfl,hb3⟩
  rw [hi]
  obtain ⟨c0,c1,f0,f1⟩:=hx1.later hb3
  obtain ⟨d0,d1,g0,g1⟩:=hy.later hb3
  go_wp2
  exact bodyPost_ret (v:=.agg #[.bool o,.int .i64 n]) (by simp [results,Tryz.results140,go_sem,d0,d1]) rfl ⟨rfl,put2 (Below.chain hb2 hb3) (by omega) _ _⟩
 | false=>
  rw [isnt_cnt h0 hi]
  go_enter Tryz.func140,Tryz.ntmps140
  go_wp2_with fail
  refine (is_any _ _ _).mono ?_
  rintro e w1 ⟨rfl,hb3⟩
  rw [hi]
  go_wp2_with fail
  refine (zbs _).mono ?_
  rintro e w2 ⟨rfl,hb4⟩
  have hb5:=Below.chain hb3 hb4
  obtain ⟨d0,d1,g0,g1⟩:=hy.later hb5
  go_wp2
  exact bodyPost_ret (v:=.agg #[.bool true,.int .i64 0]) (by simp [results,Tryz.results140,go_sem,d0,d1]) rfl ⟨rfl,put2 (Below.chain hb2 hb5) (by omega) _ _⟩
def Ns (w:World) (ao:Option Addr) (n:Nat) (l:List (Bool × Int)):Prop:=
 l.length = n ∧ (0 < n → ∃ b off,ao = some ⟨b,off,none⟩ ∧ ∀ j,j < n → w.cell? ⟨b,off + j * 2,none⟩ = some (.bool (l.getD j (false,0)).1) ∧ w.cell? ⟨b,off + j * 2 + 1,none⟩ = some (.int .i64 (l.getD j (false,0)).2))
theorem zke {o:Bool} {n a:Int} (hr:cnt o n = some a) (w:World) (h0:-9223372036854775808 ≤ n):Calls Tryz.prog 140 #[.agg #[.bool o,.int .i64 n]] w fun e w'=>e = .returned (.agg #[.bool false,.int .i64 a]) ∧ Below w.heap.size w w':=by
 have h:=zgk o n w h0
 rw [hr] at h
 exact h
theorem zkf {o:Bool} {n:Int} (hr:cnt o n = none) (w:World) (h0:-9223372036854775808 ≤ n):Calls Tryz.prog 140 #[.agg #[.bool o,.int .i64 n]] w fun e w'=>e = .returned (.agg #[.bool true,.int .i64 0]) ∧ Below w.heap.size w w':=by
 have h:=zgk o n w h0
 rw [hr] at h
 exact h
theorem zfq {l:List (Bool × Int)} {j:Nat} (h:j < l.length):l.getD j (false,0) ∈ l:=by
 rw [List.getD_eq_getElem?_getD,List.getElem?_eq_getElem h]
 exact List.getElem_mem h
def R64 (n:Int):Prop:=-9223372036854775808 ≤ n ∧ n ≤ 9223372036854775807
end Go.Proofs.YtjlaihekocjggaaGreatDoor.Fx
/-
  DERIVED: THE SHELF's CONTRACTS AT THIS DUMP,IN PLAIN WORDS (tools/lay-plain.mjs out of 'TrydShelf.lean',which tools/lay-shelf.mjs wrote): THE SAME DECLARATIONS UNDER THE SAME NAMES: 'import','namespace','open','def','theorem' AND NOTHING ELSE: no command of the shelf's: FOR A HAND-IN. Each laying: the table of numbers ('.._ren') and one theorem,a field a fact of the dump's own or the kernel's comparison;each contract: ONE APPLICATION.
-/
namespace Go.Proofs
open Go.Shelf
def Tryz.fx_lays162_ren:Go.Shelf.Ren:=⟨fun | 162=>143 | 232=>214 | 227=>215 | 234=>216 | 236=>217 | 228=>269 | 271=>270 | 151=>271 | 120=>315 | 197=>230 | 152=>316 | 260=>276 | 137=>365 | 119=>366 | 224=>279 | 225=>278 | 217=>277 | 266=>318 | n=>n,fun | 9=>9 | 4=>4 | 3=>3 | 5=>5 | 117=>239 | 116=>238 | 0=>0 | 124=>242 | 21=>21 | 105=>251 | 46=>130 | 119=>307 | 139=>310 | 138=>309 | n=>n,fun | 3=>2 | 4=>3 | n=>n⟩
theorem Tryz.fx_lays162:Go.Proofs.Lays.n162 Tryz.prog Tryz.fx_lays162_ren:={
 mixed:=by kernel_rfl
 f119:=Tryz.func366.trans (congrArg some (by kernel_rfl))
 f120:=Tryz.func315.trans (congrArg some (by kernel_rfl))
 f137:=Tryz.func365.trans (congrArg some (by kernel_rfl))
 f151:=Tryz.func271.trans (congrArg some (by kernel_rfl))
 f152:=Tryz.func316.trans (congrArg some (by kernel_rfl))
 f162:=Tryz.func143.trans (congrArg some (by kernel_rfl))
 f197:=Tryz.func230.trans (congrArg some (by kernel_rfl))
 f217:=Tryz.func277.trans (congrArg some (by kernel_rfl))
 f224:=Tryz.func279.trans (congrArg some (by kernel_rfl))
 f225:=Tryz.func278.trans (congrArg some (by kernel_rfl))
 f227:=Tryz.func215.trans (congrArg some (by kernel_rfl))
 f228:=Tryz.func269.trans (congrArg some (by kernel_rfl))
 f232:=Tryz.func214.trans (congrArg some (by kernel_rfl))
 f234:=Tryz.func216.trans (congrArg some (by kernel_rfl))
 f236:=Tryz.func217.trans (congrArg some (by kernel_rfl))
 f260:=Tryz.func276.trans (congrArg some (by kernel_rfl))
 f266:=Tryz.func318.trans (congrArg some (by kernel_rfl))
 f271:=Tryz.func270.trans (congrArg some (by kernel_rfl))
 t0:=Tryz.underlying0
 a0:=Tryz.isAgg0
 z0:=Tryz.sizeOf0
 v0:=Tryz.zeroValue0
 t3:=Tryz.underlying3
 a3:=Tryz.isAgg3
 z3:=Tryz.sizeOf3
 v3:=Tryz.zeroValue3
 t4:=Tryz.underlying4
 a4:=Tryz.isAgg4
 z4:=Tryz.sizeOf4
 v4:=Tryz.zeroValue4
 t5:=Tryz.underlying5
 a5:=Tryz.isAgg5
 z5:=Tryz.sizeOf5
 v5:=Tryz.zeroValue5
 t9:=Tryz.underlying9
 a9:=Tryz.isAgg9
 z9:=Tryz.sizeOf9
 v9:=Tryz.zeroValue9
 t21:=Tryz.underlying21
 a21:=Tryz.isAgg21
 z21:=Tryz.sizeOf21
 v21:=Tryz.zeroValue21
 t46:=Tryz.underlying130
 a46:=Tryz.isAgg130
 z46:=Tryz.sizeOf130
 v46:=Tryz.zeroValue130
 t105:=Tryz.underlying251
 a105:=Tryz.isAgg251
 z105:=Tryz.sizeOf251
 v105:=Tryz.zeroValue251
 t116:=Tryz.underlying238
 a116:=Tryz.isAgg238
 z116:=Tryz.sizeOf238
 t117:=Tryz.underlying239
 a117:=Tryz.isAgg239
 z117:=Tryz.sizeOf239
 v117:=Tryz.zeroValue239
 t119:=Tryz.underlying307
 a119:=Tryz.isAgg307
 z119:=Tryz.sizeOf307
 t124:=Tryz.underlying242
 a124:=Tryz.isAgg242
 z124:=Tryz.sizeOf242
 v124:=Tryz.zeroValue242
 t138:=Tryz.underlying309
 a138:=Tryz.isAgg309
 z138:=Tryz.sizeOf309
 v138:=Tryz.zeroValue309
 t139:=Tryz.underlying310
 a139:=Tryz.isAgg310
 z139:=Tryz.sizeOf310
 v139:=Tryz.zeroValue310
 g3:=by kernel_rfl
 g4:=by kernel_rfl }
open Go.RowKit in
theorem Tryz.fx_strings_TrimRight_one (s:ByteArray) (c:UInt8) (hc:c.toNat < 128) (w:World) (hs:s.size ≤ 9223372036854775807) :
  Calls Tryz.prog 143 #[.string s,.string ⟨#[c]⟩] w fun e w'=>e = .returned (.string ⟨(Lib.trimRightB s.data.toList c).toArray⟩) ∧ w' = w:=Any.strings_TrimRight_one Tryz.fx_lays162 s c hc w hs
def Tryz.fx_lays103_ren:Go.Shelf.Ren:=⟨fun | 103=>351 | 210=>386 | 206=>284 | n=>n,fun | 9=>9 | 4=>4 | 24=>349 | 3=>3 | n=>n,fun | n=>n⟩
theorem Tryz.fx_lays103:Go.Proofs.Lays.n103 Tryz.prog Tryz.fx_lays103_ren:={
 mixed:=by kernel_rfl
 f103:=Tryz.func351.trans (congrArg some (by kernel_rfl))
 f206:=Tryz.func284.trans (congrArg some (by kernel_rfl))
 f210:=Tryz.func386.trans (congrArg some (by kernel_rfl))
 t3:=Tryz.underlying3
 a3:=Tryz.isAgg3
 z3:=Tryz.sizeOf3
 v3:=Tryz.zeroValue3
 t4:=Tryz.underlying4
 a4:=Tryz.isAgg4
 z4:=Tryz.sizeOf4
 v4:=Tryz.zeroValue4
 t9:=Tryz.underlying9
 a9:=Tryz.isAgg9
 z9:=Tryz.sizeOf9
 v9:=Tryz.zeroValue9
 t24:=Tryz.underlying349
 a24:=Tryz.isAgg349
 z24:=Tryz.sizeOf349
 v24:=Tryz.zeroValue349 }
open Go.RowKit in
theorem Tryz.fx_strings_CutPrefix (s p:ByteArray) (w:World) :
  Calls Tryz.prog 351 #[.string s,.string p] w fun e w'=>e = .returned (.tuple #[.string ⟨(Lib.trimPrefix s.data.toList p.data.toList).toArray⟩,.bool (Lib.hasPrefix s.data.toList p.data.toList)]) ∧ w' = w:=Any.strings_CutPrefix Tryz.fx_lays103 s p w
def Tryz.fx_lays283_ren:Go.Shelf.Ren:=⟨fun | 283=>265 | n=>n,fun | 3=>3 | 9=>9 | 4=>4 | n=>n,fun | n=>n⟩
theorem Tryz.fx_lays283:Go.Proofs.Lays.n283 Tryz.prog Tryz.fx_lays283_ren:={
 mixed:=by kernel_rfl
 f283:=Tryz.func265.trans (congrArg some (by kernel_rfl))
 t3:=Tryz.underlying3
 a3:=Tryz.isAgg3
 z3:=Tryz.sizeOf3
 v3:=Tryz.zeroValue3
 t4:=Tryz.underlying4
 a4:=Tryz.isAgg4
 z4:=Tryz.sizeOf4
 v4:=Tryz.zeroValue4
 t9:=Tryz.underlying9
 a9:=Tryz.isAgg9
 z9:=Tryz.sizeOf9
 v9:=Tryz.zeroValue9 }
open Go.Lib in
theorem Tryz.fx_internal_strconv_small (i:Nat) (h:i < 100) (w:World) :
  Calls Tryz.prog 265 #[.int .i64 i] w fun e w'=>e = .returned (.string ⟨(Lib.decDigits i).toArray⟩) ∧ w' = w:=Any.internal_strconv_small Tryz.fx_lays283 i h w
def Tryz.fx_laysM284_ren:Go.Shelf.Ren:=⟨fun | 284=>266 | 129=>161 | 317=>311 | 318=>312 | n=>n,fun | 53=>51 | 3=>3 | 212=>303 | 0=>0 | 4=>4 | 46=>130 | 5=>5 | 9=>9 | n=>n,fun | 17=>1 | n=>n⟩
theorem Tryz.fx_laysM284:Go.Proofs.LaysM.n284 Tryz.prog Tryz.fx_laysM284_ren:={
 mixed:=by kernel_rfl
 f129:=Tryz.func161.trans (congrArg some (by kernel_rfl))
 f284:=Tryz.func266.trans (congrArg some (by kernel_rfl))
 f317:=Tryz.func311.trans (congrArg some (by kernel_rfl))
 f318:=Tryz.func312.trans (congrArg some (by kernel_rfl))
 t0:=Tryz.underlying0
 a0:=Tryz.isAgg0
 z0:=Tryz.sizeOf0
 v0:=Tryz.zeroValue0
 t3:=Tryz.underlying3
 a3:=Tryz.isAgg3
 z3:=Tryz.sizeOf3
 v3:=Tryz.zeroValue3
 t4:=Tryz.underlying4
 a4:=Tryz.isAgg4
 z4:=Tryz.sizeOf4
 v4:=Tryz.zeroValue4
 t5:=Tryz.underlying5
 a5:=Tryz.isAgg5
 z5:=Tryz.sizeOf5
 v5:=Tryz.zeroValue5
 t9:=Tryz.underlying9
 a9:=Tryz.isAgg9
 z9:=Tryz.sizeOf9
 v9:=Tryz.zeroValue9
 t46:=Tryz.underlying130
 a46:=Tryz.isAgg130
 z46:=Tryz.sizeOf130
 v46:=Tryz.zeroValue130
 t53:=Tryz.underlying51
 a53:=Tryz.isAgg51
 z53:=Tryz.sizeOf51
 v53:=Tryz.zeroValue51
 t212:=Tryz.underlying303
 a212:=Tryz.isAgg303
 z212:=Tryz.sizeOf303
 v212:=Tryz.zeroValue303
 g17:=by kernel_rfl
 i0:=by kernel_rfl
 i3:=by kernel_rfl
 i4:=by kernel_rfl
 i5:=by kernel_rfl
 i9:=by kernel_rfl
 i46:=by kernel_rfl
 i53:=by kernel_rfl
 i212:=by kernel_rfl
 m17:=by kernel_rfl }
open Go.Lib in
theorem Tryz.fx_internal_strconv_numDigits (u : Nat) (h1 : 1 ≤ u) (h2 : u < 18446744073709551616) (w : World) (htab : Lib.TabIs Tryz.prog w "internal/strconv.uint64pow10" .u64 Lib.pow10Tab) :
  Calls Tryz.prog 266 #[.int .u64 u] w fun e w'=>e = .returned (.int .i64 (Lib.nDigits u)) ∧ w' = w:=Any.internal_strconv_numDigits Tryz.fx_laysM284 u h1 h2 w htab
def Tryz.fx_lays285_ren:Go.Shelf.Ren:=⟨fun | 285=>267 | n=>n,fun | 37=>55 | 53=>51 | 3=>3 | 4=>4 | 51=>195 | 9=>9 | 5=>5 | 0=>0 | n=>n,fun | n=>n⟩
theorem Tryz.fx_lays285:Go.Proofs.Lays.n285 Tryz.prog Tryz.fx_lays285_ren:={
 mixed:=by kernel_rfl
 f285:=Tryz.func267.trans (congrArg some (by kernel_rfl))
 t0:=Tryz.underlying0
 a0:=Tryz.isAgg0
 z0:=Tryz.sizeOf0
 v0:=Tryz.zeroValue0
 t3:=Tryz.underlying3
 a3:=Tryz.isAgg3
 z3:=Tryz.sizeOf3
 v3:=Tryz.zeroValue3
 t4:=Tryz.underlying4
 a4:=Tryz.isAgg4
 z4:=Tryz.sizeOf4
 v4:=Tryz.zeroValue4
 t5:=Tryz.underlying5
 a5:=Tryz.isAgg5
 z5:=Tryz.sizeOf5
 v5:=Tryz.zeroValue5
 t9:=Tryz.underlying9
 a9:=Tryz.isAgg9
 z9:=Tryz.sizeOf9
 v9:=Tryz.zeroValue9
 t37:=Tryz.underlying55
 a37:=Tryz.isAgg55
 z37:=Tryz.sizeOf55
 v37:=Tryz.zeroValue55
 t51:=Tryz.underlying195
 a51:=Tryz.isAgg195
 z51:=Tryz.sizeOf195
 v51:=Tryz.zeroValue195
 t53:=Tryz.underlying51
 a53:=Tryz.isAgg51
 z53:=Tryz.sizeOf51
 v53:=Tryz.zeroValue51 }
open Go.RowKit Go.Sort Go.Lib in
theorem Tryz.fx_internal_strconv_formatBase10 (blk off cap:Nat) (u:Nat) (d:Array UInt8) (w:World) (hH:Holds (fun (b:UInt8)=>Value.int .u8 (b.toNat:Int)) w blk off d) (hu:u < 10 ^ d.size) (hu64:u < 18446744073709551616) (hsz:d.size < 4611686018427387904) :
  Calls Tryz.prog 267 #[.slice (some ⟨blk,off,none⟩) d.size cap,.int .u64 u] w fun e w'=>
   e = .returned (.tuple #[]) ∧ ∃ (n v':Nat) (dk:Array UInt8),w' = (putRow (fun (b:UInt8)=>Value.int .u8 (b.toNat:Int)) w blk off dk).drewN n ∧ FmtInv d.size u 0 v' dk:=Any.internal_strconv_formatBase10 Tryz.fx_lays285 blk off cap u d w hH hu hu64 hsz
def Tryz.fx_lays219_ren:Go.Shelf.Ren:=⟨fun | 219=>232 | 217=>277 | 225=>278 | 224=>279 | 267=>280 | 266=>318 | 314=>319 | n=>n,fun | 9=>9 | 3=>3 | 4=>4 | 5=>5 | 46=>130 | 146=>311 | 51=>195 | n=>n,fun | 1=>0 | n=>n⟩
theorem Tryz.fx_lays219:Go.Proofs.Lays.n219 Tryz.prog Tryz.fx_lays219_ren:={
 mixed:=by kernel_rfl
 f217:=Tryz.func277.trans (congrArg some (by kernel_rfl))
 f219:=Tryz.func232.trans (congrArg some (by kernel_rfl))
 f224:=Tryz.func279.trans (congrArg some (by kernel_rfl))
 f225:=Tryz.func278.trans (congrArg some (by kernel_rfl))
 f266:=Tryz.func318.trans (congrArg some (by kernel_rfl))
 f267:=Tryz.func280.trans (congrArg some (by kernel_rfl))
 f314:=Tryz.func319.trans (congrArg some (by kernel_rfl))
 t3:=Tryz.underlying3
 a3:=Tryz.isAgg3
 z3:=Tryz.sizeOf3
 v3:=Tryz.zeroValue3
 t4:=Tryz.underlying4
 a4:=Tryz.isAgg4
 z4:=Tryz.sizeOf4
 v4:=Tryz.zeroValue4
 t5:=Tryz.underlying5
 a5:=Tryz.isAgg5
 z5:=Tryz.sizeOf5
 v5:=Tryz.zeroValue5
 t9:=Tryz.underlying9
 a9:=Tryz.isAgg9
 z9:=Tryz.sizeOf9
 v9:=Tryz.zeroValue9
 t46:=Tryz.underlying130
 a46:=Tryz.isAgg130
 z46:=Tryz.sizeOf130
 v46:=Tryz.zeroValue130
 t51:=Tryz.underlying195
 a51:=Tryz.isAgg195
 z51:=Tryz.sizeOf195
 v51:=Tryz.zeroValue195
 t146:=Tryz.underlying311
 a146:=Tryz.isAgg311
 z146:=Tryz.sizeOf311
 v146:=Tryz.zeroValue311
 g1:=by kernel_rfl }
open Go.RowKit Go.Lib in
theorem Tryz.fx_stringslite_Index_one (s:ByteArray) (c:UInt8) (w:World) :
  Calls Tryz.prog 232 #[.string s,.string ⟨#[c]⟩] w fun e w'=>e = .returned (.int .i64 (Lib.indexByte s.data.toList c)) ∧ w' = w:=Any.stringslite_Index_one Tryz.fx_lays219 s c w
end Go.Proofs
namespace Go.Proofs.YtjlaihekocjggaaGreatDoor.Fx
open Go.RowKit Go.Sort
def Tab (P : Program) (w : World) : Prop := Lib.TabIs P w "internal/strconv.uint64pow10" .u64 Lib.pow10Tab
theorem Tab.later {P:Program} {w w':World} (h:Tab P w) (hb:Below w.heap.size w w'):Tab P w':=by
 unfold Tab Lib.TabIs World.var? at *
 cases hg : P.globalNamed "internal/strconv.uint64pow10" with
 | none=>simp [hg] at h
 | some g=>
  simp only [hg,Option.bind_some] at h ⊢
  have hlt:g < w.heap.size:=by
   rcases Nat.lt_or_ge g w.heap.size with h' | h'
   ·
    exact h'
   rw [Array.getElem?_eq_none h'] at h;simp at h
  rw [hb.block g hlt]
  exact h
theorem below_grow (w:World) (k:Nat) (os:Array Obj):Below w.heap.size w (grow (w.drewN k) os):=
 ⟨rfl,rfl,rfl,by simp only [size_grow];exact Nat.le_add_right _ _,fun j hj=>by
  show ((w.drewN k).heap ++ os)[j]? = _
  exact Array.getElem?_append_left hj⟩
theorem fin_new (w:World) (o:Obj) (dk:Array UInt8) (k:Nat):Below w.heap.size w ((putRow (fun (b:UInt8)=>Value.int .u8 (b.toNat:Int)) (w.alloc o) w.heap.size 0 dk).drewN k):=by
 rw [alloc_eq_grow]
 obtain ⟨os',_,e⟩:=putRow_grow_new (fun (b:UInt8)=>Value.int .u8 (b.toNat:Int)) w #[o] w.heap.size 0 dk (Nat.le_refl _)
 rw [e]
 exact below_grow w k os'
theorem zlo (w:World) (T:TypeId) (nd:Nat) (hs:nd ≤ 24):Holds (fun (b:UInt8)=>Value.int .u8 (b.toNat:Int)) (w.alloc (.cells Lib.zeros24 T)) w.heap.size 0 (Array.replicate nd (0:UInt8)):=fun j hj=>by
 have hj':j < nd:=by simpa using hj
 refine ⟨?_,World.frozen?_alloc_new _ _ _ _⟩
 rw [World.cell?_alloc_new,Lib.zeros24_at _ (by omega),getElem!_pos _ j hj]
 simp
set_option maxRecDepth 100000 in
theorem fmt_inner (u:Nat) (hu64:u < 18446744073709551616) (w:World) (htab:Tab Tryz.prog w) :
  Calls Tryz.prog 213 #[.int .u64 u,.int .i64 10] w fun e w'=>e = .returned (.string ⟨(Lib.decDigits u).toArray⟩) ∧ Below w.heap.size w w':=by
 by_cases hs:u < 100
 ·
  have hs':(u:Int) < 100:=by omega
  go_enter Tryz.func213,Tryz.ntmps213
  go_wp2_with (go_at_call 265;refine (Tryz.fx_internal_strconv_small u hs _).mono ?_;rintro e w' ⟨rfl,rfl⟩)
  go_ret
  exact ⟨rfl,Below.refl _ _⟩
 have hs':¬ (u:Int) < 100:=by omega
 have hu1:1 ≤ u:=by omega
 have hnd20:Lib.nDigits u ≤ 20:=by have:=Lib.numDigits_eq u hu1 hu64;split at this <;> omega
 have hal:Tryz.prog.arrayLen 268 = 24:=by simp [Program.arrayLen,Tryz.underlying268]
 have hsl1:∀ W,(Instr.sliceAt 268 (.pointer (some ⟨w.heap.size,0,none⟩)) none (some (.int .i64 (Lib.nDigits u:Int))) none).run Tryz.prog W = .ok (.slice (some ⟨w.heap.size,0,none⟩) (Lib.nDigits u) 24) W:=fun W=>by
  rw [run_sliceAt_array_h W 268 ⟨w.heap.size,0,none⟩ (by simp [Program.arrayLen,Program.elem,Tryz.underlying268]) .i64 (Lib.nDigits u:Int) (by omega) (by rw [hal];omega)]
  go_simp
 have hH0:=zlo w 268 (Lib.nDigits u) (by omega)
 have hfmt:=Tryz.fx_internal_strconv_formatBase10 w.heap.size 0 24 u (Array.replicate (Lib.nDigits u) 0) (w.alloc (.cells Lib.zeros24 268)) hH0 (by rw [Array.size_replicate];exact Lib.lt_pow_nDigits u) hu64 (by rw [Array.size_replicate];omega)
 rw [Array.size_replicate] at hfmt
 have HH0:=Lib.hid hH0
 clear hH0 hal
 go_enter Tryz.func213,Tryz.ntmps213
 go_wp2_with (go_at_call 266;refine (Tryz.fx_internal_strconv_numDigits u hu1 hu64 _ (Lib.tabIs_alloc htab _)).mono ?_;rintro e w' ⟨rfl,rfl⟩)
 refine hfmt.mono ?_
 rintro e w' ⟨rfl,k,v',dk,rfl,hF⟩
 have hcv:(convert 55 9 (.slice (some ⟨w.heap.size,0,none⟩) (Lib.nDigits u) 24)).run Tryz.prog ((putRow (fun (b:UInt8)=>Value.int .u8 (b.toNat:Int)) (w.alloc (.cells Lib.zeros24 268)) w.heap.size 0 dk).drewN k) = .ok (.string ⟨(Lib.decDigits u).toArray⟩) ((putRow (fun (b:UInt8)=>Value.int .u8 (b.toNat:Int)) (w.alloc (.cells Lib.zeros24 268)) w.heap.size 0 dk).drewN k):=by
  have h:=run_convert_bytes_back (P:=Tryz.prog) ((putRow (fun (b:UInt8)=>Value.int .u8 (b.toNat:Int)) (w.alloc (.cells Lib.zeros24 268)) w.heap.size 0 dk).drewN k) 55 9 5 ⟨w.heap.size,0,none⟩ 24 (Lib.decDigits u) Tryz.underlying55 Tryz.underlying5 Tryz.underlying9 (fun j hj=>by
   rw [Lib.row_is_numeral hF j hj,Lib.add_plain,World.cell?_drewN]
   exact cell?_putRow (fun (b:UInt8)=>Value.int .u8 (b.toNat:Int)) _ w.heap.size 0 _ dk HH0.out (by rw [hF.size,Array.size_replicate]) j (by rw [hF.size];rw [Lib.decDigits_length] at hj;exact hj))
  rw [Lib.decDigits_length] at h
  exact h
 go_wp2
 go_ret
 exact ⟨rfl,fin_new _ _ _ _⟩
theorem fmt_any (u:Nat) (hu64:u < 18446744073709551616) (w:World) (htab:Tab Tryz.prog w) :
  Calls Tryz.prog 142 #[.int .u64 u,.int .i64 10] w fun e w'=>e = .returned (.string ⟨(Lib.decDigits u).toArray⟩) ∧ Below w.heap.size w w':=by
 go_enter Tryz.func142,Tryz.ntmps142
 go_wp2_with fail
 refine (fmt_inner u hu64 _ htab).mono ?_
 rintro e w1 ⟨rfl,hb1⟩
 go_wp2
 go_ret
 exact ⟨rfl,hb1⟩
end Go.Proofs.YtjlaihekocjggaaGreatDoor.Fx
namespace Go.Proofs.YtjlaihekocjggaaGreatDoor.Fx
open Go.RowKit
def fracT (r:Nat):List UInt8:=Lib.trimRightB (Lib.decDigits (1000000 + r)).tail 48
def prU (m:Nat):List UInt8:=Lib.decDigits (m / 1000000) ++ (if m % 1000000 = 0 then [] else 46 :: fracT (m % 1000000))
def fPrint:Option Int → List UInt8
 | none=>[111,118,102]
 | some n=>(if n < 0 then [45] else []) ++ prU n.natAbs
theorem zgj {u:Nat} (h:u < 18446744073709551616):(Lib.decDigits u).length ≤ 20:=by
 rw [Lib.decDigits_length]
 by_cases h1:1 ≤ u
 ·
  have:=Lib.numDigits_eq u h1 h
  split at this <;> omega
 have:u = 0:=by omega
 subst this
 rw [Lib.nDigits_small (by omega)]
 omega
theorem zns (l:List UInt8) (c:UInt8):(Lib.trimRightB l c).length ≤ l.length:=by
 unfold Lib.trimRightB
 rw [List.length_reverse]
 have:=(List.dropWhile_sublist (· == c) (l:=l.reverse)).length_le
 rw [List.length_reverse] at this
 exact this
theorem zow {r:Nat} (h:r < 1000000):(fracT r).length ≤ 20:=by
 have:=zns (Lib.decDigits (1000000 + r)).tail 48
 have:=zgj (by omega:1000000 + r < 18446744073709551616)
 unfold fracT
 rw [List.length_tail] at *
 omega
theorem zbc (x y:List UInt8):(⟨x.toArray⟩:ByteArray) ++ ⟨y.toArray⟩ = ⟨(x ++ y).toArray⟩:=by
 apply ByteArray.ext
 rw [ByteArray.data_append]
 simp
theorem ba_drop (l:List UInt8) (k:Nat):(⟨l.toArray⟩:ByteArray).extract k l.length = ⟨(l.drop k).toArray⟩:=by
 apply ByteArray.ext
 rw [ByteArray.data_extract]
 simp
 rw [List.take_of_length_le (by simp)]
theorem zau (l:List UInt8):(⟨l.toArray⟩:ByteArray).size = l.length:=by
 show l.toArray.size = _
 simp
theorem trim_any (l:List UInt8) (w:World) (hl:l.length ≤ 1000):Calls Tryz.prog 143 #[.string ⟨l.toArray⟩,.string ⟨#[48]⟩] w fun e w'=>e = .returned (.string ⟨(Lib.trimRightB l 48).toArray⟩) ∧ w = w':=by
 refine (Tryz.fx_strings_TrimRight_one ⟨l.toArray⟩ 48 (by decide) w (by rw [zau];omega)).mono ?_
 rintro e w' ⟨rfl,rfl⟩
 exact ⟨by simp,rfl⟩
theorem print_any (o:Bool) (n:Int) (w:World) (hn:R64 n) (ht:Tab Tryz.prog w):Calls Tryz.prog 79 #[.agg #[.bool o,.int .i64 n]] w fun e w'=>e = .returned (.string ⟨(fPrint (cnt o n)).toArray⟩) ∧ Below w.heap.size w w':=by
 have hV:V (cnt o n):=V.cnt hn.1 hn.2
 have hx:=Box.new w o n
 have hb0:Below w.heap.size w (w.alloc (.cells #[.bool o,.int .i64 n] 23)):=bal (Below.refl _ _) _
 cases hr:cnt o n with
 | none=>
  go_enter Tryz.func79,Tryz.ntmps79
  go_wp2_with fail
  refine (zkf hr _ hn.1).mono ?_
  rintro e w1 ⟨rfl,hb1⟩
  have hx1:=hx.later hb1
  obtain ⟨p0,p1,_,_⟩:=hx1.put (p:=true) (m:=0)
  obtain ⟨c0,c1,f0,f1⟩:=hx1
  go_wp2
  go_ret
  exact ⟨rfl,put2 (Below.chain hb0 hb1) (by omega) _ _⟩
 | some a=>
  rw [hr] at hV
  have ha:R64 a:=⟨by have:=hV.1;simp only [nn] at this;omega,hV.2⟩
  have hmag:=fun w=>mag_any a w ha.1 ha.2
  have hm:a.natAbs < 18446744073709551616:=by have:=ha.1;have:=ha.2;omega
  show Calls _ _ _ _ fun e w'=>e = .returned (.string ⟨((if a < 0 then [45] else []) ++ prU a.natAbs).toArray⟩) ∧ _
  generalize a.natAbs = M at *
  unfold prU
  obtain ⟨Q,hQ⟩:∃ Q,M / 1000000 = Q:=⟨_,rfl⟩
  obtain ⟨R,hR⟩:∃ R,M % 1000000 = R:=⟨_,rfl⟩
  have e1:(M:Int) / 1000000 = (Q:Int):=by omega
  have e2:(M:Int) % 1000000 = (R:Int):=by omega
  have hQm:Q < 18446744073709551616:=by omega
  have hRm:R < 1000000:=by omega
  rw [hQ,hR]
  have HM:Hid (M < 18446744073709551616):=hm
  clear hQ hR hm
  have hl1:=zgj hQm
  have hl2:=zgj (by omega:1000000 + R < 18446744073709551616)
  have hl3:=zow hRm
  have hl4:1 ≤ (Lib.decDigits (1000000 + R)).length:=by rw [Lib.decDigits_length];exact Lib.nDigits_pos _
  have hap:=zbc
  have hdr:=ba_drop (Lib.decDigits (1000000 + R)) 1
  have hF1:=fmt_any Q hQm
  have hF2:=fmt_any (1000000 + R) (by omega)
  have e3:((1000000 + R:Nat):Int) = 1000000 + (R:Int):=by omega
  rw [e3] at hF2
  go_enter Tryz.func79,Tryz.ntmps79
  go_wp2_with fail
  refine (zke hr _ hn.1).mono ?_
  rintro e w1 ⟨rfl,hb1⟩
  have hx1:=hx.later hb1
  have hx2:=hx1.put (p:=false) (m:=a)
  have hb2:=put2 (Below.chain hb0 hb1) (b:=w.heap.size) (by omega) false a
  have hx2':=hx2
  obtain ⟨p0,p1,_,_⟩:=hx2
  have ht2:=ht.later hb2
  obtain ⟨c0,c1,f0,f1⟩:=hx1
  go_wp2_with (go_at_call 141;refine (hmag _).mono ?_;rintro e w' ⟨rfl,rfl⟩)
  refine (hF1 _ ht2).mono ?_
  rintro e w2 ⟨rfl,hb3⟩
  have ht3:=ht2.later hb3
  have hb4:=Below.chain hb2 hb3
  obtain ⟨d0,d1,g0,g1⟩:=hx2'.later hb3
  clear p0 p1 c0 c1 f0 f1
  by_cases hneg:a < 0
  ·
   skip
   by_cases hz:R = 0
   ·
    subst hz
    go_wp2
    go_ret
    exact ⟨by simp,hb4⟩
   have hz':¬ (R:Int) = 0:=by omega
   go_wp2_with fail
   refine (hF2 _ ht3).mono ?_
   rintro e w3 ⟨rfl,hb5⟩
   go_wp2_with fail
   refine (trim_any _ _ (by rw [List.length_tail];omega)).mono ?_
   rintro e w4 ⟨rfl,rfl⟩
   have hfr:Lib.trimRightB (Lib.decDigits (1000000 + R)).tail 48 = fracT R:=rfl
   rw [hfr]
   clear hfr
   go_wp2
   go_ret
   exact ⟨by simp,Below.chain hb4 hb5⟩
  skip
  by_cases hz:R = 0
  ·
   subst hz
   go_wp2
   go_ret
   exact ⟨by simp,hb4⟩
  have hz':¬ (R:Int) = 0:=by omega
  go_wp2_with fail
  refine (hF2 _ ht3).mono ?_
  rintro e w3 ⟨rfl,hb5⟩
  go_wp2_with fail
  refine (trim_any _ _ (by rw [List.length_tail];omega)).mono ?_
  rintro e w4 ⟨rfl,rfl⟩
  have hfr:Lib.trimRightB (Lib.decDigits (1000000 + R)).tail 48 = fracT R:=rfl
  rw [hfr]
  clear hfr
  go_wp2
  go_ret
  exact ⟨by simp,Below.chain hb4 hb5⟩
end Go.Proofs.YtjlaihekocjggaaGreatDoor.Fx
namespace Go.Proofs.YtjlaihekocjggaaGreatDoor.Fx
def HalfInv (u d y1 y0 q r:Nat):Prop:=q * y1 + r = u ∧ (u * 4294967296 + d) / (y1 * 4294967296 + y0) ≤ q ∧ r < 4294967296 ∧ q ≤ 4294967297
open Go.RowKit
theorem below_drewN {B:Nat} {a w:World} (h:Below B a w) (k:Nat):Below B a (w.drewN k):=⟨h.os,h.tape,h.output,h.size,h.block⟩
def isDg (c:UInt8):Bool:=decide (48 ≤ (c.toNat:Int) ∧ (c.toNat:Int) ≤ 57)
def dgs (l:List UInt8):Bool:=l.all isDg
def fDigits (l:List UInt8) (most:Nat):Bool:=decide (1 ≤ l.length) && (decide (l.length ≤ most) && dgs l)
def rd (l:List UInt8):Nat:=l.foldl (fun n c=>n * 10 + (c.toNat - 48)) 0
theorem rd_snoc (l:List UInt8) (c:UInt8):rd (l ++ [c]) = rd l * 10 + (c.toNat - 48):=by simp [rd]
theorem dgs_snoc (l:List UInt8) (c:UInt8):dgs (l ++ [c]) = (dgs l && isDg c):=by simp [dgs]
theorem zdp (l m:List UInt8):dgs (l ++ m) = (dgs l && dgs m):=by simp [dgs]
theorem zci (l:List UInt8) (k:Nat) (h:k < l.length):l.take (k + 1) = l.take k ++ [l[k]]:=List.take_succ_eq_append_getElem h
theorem zlt {l:List UInt8} (h:dgs l = true) (k:Nat) (hk:k < l.length):48 ≤ (l[k].toNat:Int) ∧ (l[k].toNat:Int) ≤ 57:=by
 unfold dgs at h
 rw [List.all_eq_true] at h
 have:=h l[k] (List.getElem_mem hk)
 unfold isDg at this
 exact of_decide_eq_true this
theorem not_dgs {l:List UInt8} (k:Nat) (hk:k < l.length) (h:¬ (48 ≤ (l[k].toNat:Int) ∧ (l[k].toNat:Int) ≤ 57)):dgs l = false:=by
 cases hd:dgs l with
 | false=>rfl
 | true=>exact (h (zlt hd k hk)).elim
theorem rd_lt:∀ (k:Nat) (l:List UInt8),dgs l = true → k ≤ l.length → rd (l.take k) < 10 ^ k
 | 0,l,_,_=>by simp [rd]
 | k + 1,l,h,hk=>by
  rw [zci l k (by omega),rd_snoc]
  have:=rd_lt k l h (by omega)
  have:=zlt h k (by omega)
  rw [Nat.pow_succ]
  omega
theorem zed {l:List UInt8} {k:Nat} (h:k < l.length):k < (⟨l.toArray⟩:ByteArray).size:=by rw [zau];exact h
theorem zfi (l:List UInt8) (most:Nat) (w:World) (hl:l.length ≤ 9223372036854775807) :
  Calls Tryz.prog 353 #[.string ⟨l.toArray⟩,.int .i64 most] w fun e w'=>e = .returned (.bool (fDigits l most)) ∧ w = w':=by
 by_cases h1:1 ≤ l.length
 ·
  by_cases h2:l.length ≤ most
  ·
   have e:fDigits l most = dgs l:=by simp [fDigits,h1,h2]
   rw [e]
   have h1':¬ (l.length:Int) < 1:=by omega
   have h2':¬ (most:Int) < l.length:=by omega
   go_enter Tryz.func353,Tryz.ntmps353
   go_wp2_with fail
   go_loop [17] (fun i=>∃ k:Nat,k ≤ l.length ∧ i = .int .i64 k ∧ Hid (dgs (l.take k) = true)) (fun i=>l.length - (intOf i).toNat)
   case atStart=>exact ⟨0,by omega,rfl,rfl⟩
   case round=>
    obtain ⟨k,hk,rfl,hd⟩:=hrel
    by_cases hlt:k < l.length
    ·
     have hbk:=zed hlt
     by_cases hc1:48 ≤ (((⟨l.toArray⟩:ByteArray)[k]'hbk).toNat:Int)
     ·
      by_cases hc2:(((⟨l.toArray⟩:ByteArray)[k]'hbk).toNat:Int) ≤ 57
      ·
       have hd':Hid (dgs (l.take (k + 1)) = true):=by
        show dgs (l.take (k + 1)) = true
        rw [zci l k hlt,dgs_snoc,hd.out]
        simp only [Bool.true_and]
        exact decide_eq_true ⟨hc1,hc2⟩
       go_wp2_with fail
       go_round
       case rel=>exact ⟨k + 1,by omega,by go_num,hd'⟩
       case measure=>simp [intOf];omega
      have hf:Hid (dgs l = false):=not_dgs k hlt (fun h=>hc2 h.2)
      go_wp2_with fail
      go_ret
      exact ⟨by rw [hf.out];rfl,rfl⟩
     have hf:Hid (dgs l = false):=not_dgs k hlt (fun h=>hc1 h.1)
     go_wp2_with fail
     go_ret
     exact ⟨by rw [hf.out];rfl,rfl⟩
    have hf:Hid (dgs l = true):=by
     have:=hd.out
     rw [List.take_of_length_le (by omega)] at this
     exact this
    go_wp2_with fail
    go_ret
    exact ⟨by rw [hf.out];rfl,rfl⟩
  have e:fDigits l most = false:=by simp [fDigits,h2]
  rw [e]
  have h1':¬ (l.length:Int) < 1:=by omega
  have h2':(most:Int) < l.length:=by omega
  go_enter Tryz.func353,Tryz.ntmps353
  go_wp2_with fail
  go_ret
  exact ⟨rfl,rfl⟩
 have e:fDigits l most = false:=by simp [fDigits,h1]
 rw [e]
 have h1':(l.length:Int) < 1:=by omega
 go_enter Tryz.func353,Tryz.ntmps353
 go_wp2_with fail
 go_ret
 exact ⟨rfl,rfl⟩
def fWhole (l:List UInt8):Bool:=fDigits l 13 && (decide (l.length = 1) || decide (l.head? ≠ some 48))
theorem zlj (l:List UInt8) (w:World) (hl:l.length ≤ 9223372036854775807) :
  Calls Tryz.prog 352 #[.string ⟨l.toArray⟩] w fun e w'=>e = .returned (.bool (fWhole l)) ∧ w = w':=by
 have hd:=fun w=>zfi l 13 w hl
 unfold fWhole
 cases hf:fDigits l 13 with
 | false=>
  rw [hf] at hd
  go_enter Tryz.func352,Tryz.ntmps352
  go_wp2_with (go_at_call 353;refine (hd _).mono ?_;rintro e w' ⟨rfl,rfl⟩)
  go_ret
  exact ⟨rfl,rfl⟩
 | true=>
  rw [hf] at hd
  have h1:0 < l.length:=by
   unfold fDigits at hf
   simp at hf
   omega
  have hbk:=zed h1
  by_cases h2:l.length = 1
  ·
   have h2':(l.length:Int) = 1:=by omega
   go_enter Tryz.func352,Tryz.ntmps352
   go_wp2_with (go_at_call 353;refine (hd _).mono ?_;rintro e w' ⟨rfl,rfl⟩)
   go_ret
   exact ⟨by simp [h2],rfl⟩
  have h2':¬ (l.length:Int) = 1:=by omega
  by_cases h3:(((⟨l.toArray⟩:ByteArray)[0]'hbk).toNat:Int) = 48
  ·
   have h4:Hid (l.head? = some 48):=by
    show l.head? = some 48
    cases l with
    | nil=>cases h1
    | cons c r=>
     have:(c.toNat:Int) = 48:=h3
     have:c = 48:=UInt8.toNat_inj.1 (by show c.toNat = 48;omega)
     rw [this]
     rfl
   go_enter Tryz.func352,Tryz.ntmps352
   go_wp2_with (go_at_call 353;refine (hd _).mono ?_;rintro e w' ⟨rfl,rfl⟩)
   go_ret
   exact ⟨by rw [h4.out];simp [h2,h2'],rfl⟩
  have h4:Hid (l.head? ≠ some 48):=by
   show l.head? ≠ some 48
   intro h
   cases l with
   | nil=>cases h1
   | cons c r=>
    cases h
    exact h3 rfl
  go_enter Tryz.func352,Tryz.ntmps352
  go_wp2_with (go_at_call 353;refine (hd _).mono ?_;rintro e w' ⟨rfl,rfl⟩)
  go_ret
  exact ⟨by simp [h4.out,h2',h3],rfl⟩
theorem zdm (l:List UInt8) (w:World) (hl:l.length ≤ 19) (hd:dgs l = true) :
  Calls Tryz.prog 354 #[.string ⟨l.toArray⟩] w fun e w'=>e = .returned (.int .u64 (rd l)) ∧ w = w':=by
 have HD:Hid (dgs l = true):=hd
 clear hd
 go_enter Tryz.func354,Tryz.ntmps354
 go_wp2_with fail
 go_loop [3,7] (fun n i=>∃ k:Nat,k ≤ l.length ∧ i = .int .i64 k ∧ n = .int .u64 (rd (l.take k))) (fun _ i=>l.length - (intOf i).toNat)
 case atStart=>exact ⟨0,by omega,rfl,rfl⟩
 case round=>
  obtain ⟨k,hk,rfl,rfl⟩:=hrel
  by_cases hlt:k < l.length
  ·
   have hbk:=zed hlt
   have hg:48 ≤ (((⟨l.toArray⟩:ByteArray)[k]'hbk).toNat:Int) ∧ (((⟨l.toArray⟩:ByteArray)[k]'hbk).toNat:Int) ≤ 57:=zlt HD.out k hlt
   obtain ⟨hc1,hc2⟩:=hg
   have hr:=rd_lt k l HD.out hk
   have hp:10 ^ k ≤ 10 ^ 18:=Nat.pow_le_pow_right (by omega) (by omega)
   have hr':rd (l.take k) < 1000000000000000000:=by
    have:(10:Nat) ^ 18 = 1000000000000000000:=by decide
    omega
   have HS:Hid (rd (l.take (k + 1)) = rd (l.take k) * 10 + (((⟨l.toArray⟩:ByteArray)[k]'hbk).toNat - 48)):=by
    show rd (l.take (k + 1)) = _
    rw [zci l k hlt,rd_snoc]
    rfl
   clear hr hp
   generalize rd (l.take k) = m at *
   go_wp2_with fail
   go_round
   case rel=>exact ⟨k + 1,by omega,by go_num,by rw [HS.out];go_num⟩
   case measure=>simp [intOf];omega
  have e:l.take k = l:=List.take_of_length_le (by omega)
  rw [e]
  go_wp2_with fail
  go_ret
  exact ⟨rfl,rfl⟩
def cutP:List UInt8 → List UInt8 × List UInt8 × Bool
 | []=>([],[],false)
 | c :: r=>if c = 46 then ([],r,true) else (c :: (cutP r).1,(cutP r).2.1,(cutP r).2.2)
theorem cut_index:∀ l:List UInt8,(cutP l = (l,[],false) ∧ Lib.indexByte l 46 = -1) ∨ ∃ i:Nat,i < l.length ∧ Lib.indexByte l 46 = (i:Int) ∧ cutP l = (l.take i,l.drop (i + 1),true)
 | []=>Or.inl ⟨rfl,rfl⟩
 | c :: r=>by
  by_cases h:c = 46
  ·
   subst h
   exact Or.inr ⟨0,by simp,by simp [Lib.indexByte],by simp [cutP]⟩
  rcases cut_index r with ⟨h1,h2⟩ | ⟨i,h1,h2,h3⟩
  ·
   exact Or.inl ⟨by simp [cutP,h,h1],by simp [Lib.indexByte,h,h2]⟩
  refine Or.inr ⟨i + 1,by simp;omega,?_,by simp [cutP,h,h3]⟩
  have:¬ ((i:Int) = -1):=by omega
  simp [Lib.indexByte,h,h2,this]
theorem ba_take (l:List UInt8) (k:Nat):(⟨l.toArray⟩:ByteArray).extract 0 k = ⟨(l.take k).toArray⟩:=by
 apply ByteArray.ext
 rw [ByteArray.data_extract]
 simp
theorem cut_inner (l:List UInt8) (w:World) (hl:l.length ≤ 1000) :
  Calls Tryz.prog 165 #[.string ⟨l.toArray⟩,.string ⟨#[46]⟩] w fun e w'=>e = .returned (.tuple #[.string ⟨(cutP l).1.toArray⟩,.string ⟨(cutP l).2.1.toArray⟩,.bool (cutP l).2.2]) ∧ Below w.heap.size w w':=by
 have hi:=fun w=>Tryz.fx_stringslite_Index_one ⟨l.toArray⟩ 46 w
 have hsz:=zau l
 rcases cut_index l with ⟨h1,h2⟩ | ⟨i,h1,h2,h3⟩
 ·
  rw [h1]
  rw [h2] at hi
  go_enter Tryz.func165,Tryz.ntmps165
  go_wp2_with (go_at_call 232;refine (hi _).mono ?_;rintro e w' ⟨rfl,rfl⟩)
  exact bodyPost_ret (v:=.tuple #[.string ⟨l.toArray⟩,.string ⟨#[]⟩,.bool false]) (by simp [results,Tryz.results165,go_sem]) rfl ⟨rfl,Below.refl _ _⟩
 rw [h3]
 rw [h2] at hi
 have t1:=ba_take l i
 have t2:=ba_drop l (i + 1)
 go_enter Tryz.func165,Tryz.ntmps165
 go_wp2_with (go_at_call 232;refine (hi _).mono ?_;rintro e w' ⟨rfl,rfl⟩)
 go_quiet (fail)
 go_wp2
 exact bodyPost_ret (v:=.tuple #[.string ⟨(l.take i).toArray⟩,.string ⟨(l.drop (i + 1)).toArray⟩,.bool true]) (by simp [results,Tryz.results165,go_sem]) rfl ⟨rfl,below_drewN (Below.refl _ _) _⟩
theorem cut_any (l:List UInt8) (w:World) (hl:l.length ≤ 1000) :
  Calls Tryz.prog 91 #[.string ⟨l.toArray⟩,.string ⟨#[46]⟩] w fun e w'=>e = .returned (.tuple #[.string ⟨(cutP l).1.toArray⟩,.string ⟨(cutP l).2.1.toArray⟩,.bool (cutP l).2.2]) ∧ Below w.heap.size w w':=by
 have h:=cut_inner l w hl
 generalize (cutP l).1 = a at *
 generalize (cutP l).2.1 = b at *
 generalize (cutP l).2.2 = c at *
 go_enter Tryz.func91,Tryz.ntmps91
 go_wp2_with fail
 refine h.mono ?_
 rintro e w1 ⟨rfl,hb1⟩
 go_wp2
 exact bodyPost_ret (v:=.tuple #[.string ⟨a.toArray⟩,.string ⟨b.toArray⟩,.bool c]) (by simp [results,Tryz.results91,go_sem]) rfl ⟨rfl,hb1⟩
def mns (l:List UInt8):Bool:=decide (l.head? = some 45)
def bare (l:List UInt8):List UInt8:=if mns l = true then l.tail else l
def okT (l:List UInt8):Bool:=fWhole (cutP (bare l)).1 && (!(cutP (bare l)).2.2 || fDigits (cutP (bare l)).2.1 6)
def magT (l:List UInt8):Nat:=rd ((cutP (bare l)).1 ++ (cutP (bare l)).2.1) * 10 ^ (6 - (cutP (bare l)).2.1.length)
def fParse (l:List UInt8):Option (Option Int):=if l = [111,118,102] then some none else if okT l = true then some (sgn (mns l) (magT l)) else none
def po:Option (Option Int) → Bool
 | none=>false
 | some r=>ov r
def pn:Option (Option Int) → Int
 | none=>0
 | some r=>nn r
def pe:Option (Option Int) → Int
 | none=>20
 | some _=>0
theorem zjy (l:List UInt8):Lib.hasPrefix l [45] = mns l:=by
 cases l with
 | nil=>rfl
 | cons c r=>
  by_cases h:c = 45
  ·
   subst h
   simp [Lib.hasPrefix,mns]
  have h':¬ (45:UInt8) = c:=fun e=>h e.symm
  simp [Lib.hasPrefix,mns,List.isPrefixOf,h,h']
theorem znt (l:List UInt8):Lib.trimPrefix l [45] = bare l:=by
 unfold Lib.trimPrefix bare
 rw [zjy]
 simp
theorem zoc (l:List UInt8) (w:World):Calls Tryz.prog 351 #[.string ⟨l.toArray⟩,.string ⟨#[45]⟩] w fun e w'=>e = .returned (.tuple #[.string ⟨(bare l).toArray⟩,.bool (mns l)]) ∧ w = w':=by
 refine (Tryz.fx_strings_CutPrefix ⟨l.toArray⟩ ⟨#[45]⟩ w).mono ?_
 rintro e w' ⟨rfl,rfl⟩
 refine ⟨?_,rfl⟩
 have e1:(⟨l.toArray⟩:ByteArray).data.toList = l:=by simp
 have e2:(⟨#[45]⟩:ByteArray).data.toList = [45]:=rfl
 rw [e1,e2,zjy,znt]
theorem bare_le (l:List UInt8):(bare l).length ≤ l.length:=by
 unfold bare
 split
 ·
  rw [List.length_tail];omega
 omega
theorem cut_le (l:List UInt8):(cutP l).1.length ≤ l.length ∧ (cutP l).2.1.length ≤ l.length:=by
 rcases cut_index l with ⟨h1,_⟩ | ⟨i,h1,_,h3⟩
 ·
  rw [h1];simp
 rw [h3];simp;omega
theorem znp {l:List UInt8} (h:(cutP l).2.2 = false):(cutP l).2.1 = []:=by
 rcases cut_index l with ⟨h1,_⟩ | ⟨i,h1,_,h3⟩
 ·
  rw [h1]
 rw [h3] at h;cases h
theorem digits_of {l:List UInt8} {k:Nat} (h:fDigits l k = true):1 ≤ l.length ∧ l.length ≤ k ∧ dgs l = true:=by
 unfold fDigits at h
 simp at h
 exact ⟨by omega,h.2.1,h.2.2⟩
theorem whole_of {l:List UInt8} (h:fWhole l = true):1 ≤ l.length ∧ l.length ≤ 13 ∧ dgs l = true:=by
 unfold fWhole at h
 simp at h
 exact digits_of h.1
theorem parse_any (l:List UInt8) (w:World) (hl:l.length ≤ 1000) :
  Calls Tryz.prog 306 #[.string ⟨l.toArray⟩] w fun e w'=>e = .returned (.tuple #[.agg #[.bool (po (fParse l)),.int .i64 (pn (fParse l))],.int .i64 (pe (fParse l))]) ∧ Below w.heap.size w w':=by
 have hx:=Box.new w false 0
 have hb0:Below w.heap.size w (w.alloc (.cells #[.bool false,.int .i64 0] 23)):=bal (Below.refl _ _) _
 by_cases ho:l = [111,118,102]
 ·
  subst ho
  go_enter Tryz.func306,Tryz.ntmps306
  go_wp2_with fail
  refine (zbs _).mono ?_
  rintro e w1 ⟨rfl,hb1⟩
  obtain ⟨c0,c1,f0,f1⟩:=hx.later hb1
  go_wp2
  exact bodyPost_ret (v:=.tuple #[.agg #[.bool true,.int .i64 0],.int .i64 0]) (by simp [results,Tryz.results306,go_sem,c0,c1]) rfl ⟨rfl,put2 (Below.chain hb0 hb1) (by omega) _ _⟩
 have ho':(l == [111,118,102]) = false:=by simpa using ho
 have hbl:=bare_le l
 have hcl:=cut_le (bare l)
 have hp:=zoc l
 have hc:=fun w=>cut_any (bare l) w (by omega)
 have e0:fParse l = if okT l = true then some (sgn (mns l) (magT l)) else none:=by unfold fParse;rw [if_neg ho]
 rw [e0]
 unfold okT magT
 have hno:=znp (l:=bare l)
 generalize cutP (bare l) = C at *
 obtain ⟨A,D,F⟩:=C
 dsimp only at *
 generalize bare l = t at *
 have hA:=fun w=>zlj A w (by omega)
 have hD:=fun w=>zfi D 6 w (by omega)
 have HN:Hid _:=hno
 clear hno e0
 have hap:=zbc A D
 cases hw:fWhole A with
 | false=>
  rw [hw] at hA
  go_enter Tryz.func306,Tryz.ntmps306
  go_wp2_with (go_at_call 351;refine (hp _).mono ?_;rintro e w' ⟨rfl,rfl⟩)
  refine (hc _).mono ?_
  rintro e w1 ⟨rfl,hb1⟩
  obtain ⟨c0,c1,f0,f1⟩:=hx.later hb1
  go_wp2_with (go_at_call 352;refine (hA _).mono ?_;rintro e w' ⟨rfl,rfl⟩)
  exact bodyPost_ret (v:=.tuple #[.agg #[.bool false,.int .i64 0],.int .i64 20]) (by simp [results,Tryz.results306,go_sem,c0,c1]) rfl ⟨rfl,put2 (Below.chain hb0 hb1) (by omega) _ _⟩
 | true=>
  rw [hw] at hA
  cases F with
  | true=>
   cases hd:fDigits D 6 with
   | false=>
    rw [hd] at hD
    go_enter Tryz.func306,Tryz.ntmps306
    go_wp2_with (go_at_call 351;refine (hp _).mono ?_;rintro e w' ⟨rfl,rfl⟩)
    refine (hc _).mono ?_
    rintro e w1 ⟨rfl,hb1⟩
    obtain ⟨c0,c1,f0,f1⟩:=hx.later hb1
    go_wp2_with (first | (go_at_call 352;refine (hA _).mono ?_;rintro e w' ⟨rfl,rfl⟩) | (go_at_call 353;refine (hD _).mono ?_;rintro e w' ⟨rfl,rfl⟩))
    exact bodyPost_ret (v:=.tuple #[.agg #[.bool false,.int .i64 0],.int .i64 20]) (by simp [results,Tryz.results306,go_sem,c0,c1]) rfl ⟨rfl,put2 (Below.chain hb0 hb1) (by omega) _ _⟩
   | true=>
    rw [hd] at hD
    have HDD:Hid (D.length ≤ 6 ∧ dgs D = true):=(digits_of hd).2
    have hdg:dgs (A ++ D) = true:=by rw [zdp,(whole_of hw).2.2,HDD.out.2];rfl
    have hlA:=(whole_of hw).2.1
    have hlD:=HDD.out.1
    have hlen:(A ++ D).length ≤ 19:=by rw [List.length_append];omega
    have hrd:=fun w=>zdm (A ++ D) w hlen hdg
    have hlt0:=rd_lt (A ++ D).length (A ++ D) hdg (Nat.le_refl _)
    rw [List.take_of_length_le (Nat.le_refl _)] at hlt0
    have hlt1:rd (A ++ D) * 10 ^ (6 - D.length) < 10000000000000000000:=by
     have e1:rd (A ++ D) * 10 ^ (6 - D.length) < 10 ^ (A ++ D).length * 10 ^ (6 - D.length):=(Nat.mul_lt_mul_right (Nat.pos_of_ne_zero (by simp))).2 hlt0
     rw [← Nat.pow_add] at e1
     have e2:10 ^ ((A ++ D).length + (6 - D.length)) ≤ 10 ^ 19:=Nat.pow_le_pow_right (by omega) (by rw [List.length_append];omega)
     have e3:(10:Nat) ^ 19 = 10000000000000000000:=by decide
     omega
    have hs:=zgx (mns l) (rd (A ++ D) * 10 ^ (6 - D.length))
    have HL1:Hid _:=hlt1
    have HL:Hid _:=hlen
    clear hlt0 hlt1 hdg hlen
    generalize rd (A ++ D) = r at *
    have hap':(A ++ D).length ≤ 1000:=by have:=HL.out;omega
    rw [List.length_append] at hap'
    go_enter Tryz.func306,Tryz.ntmps306
    go_wp2_with (go_at_call 351;refine (hp _).mono ?_;rintro e w' ⟨rfl,rfl⟩)
    refine (hc _).mono ?_
    rintro e w1 ⟨rfl,hb1⟩
    have hx1:=hx.later hb1
    go_wp2_with (first | (go_at_call 352;refine (hA _).mono ?_;rintro e w' ⟨rfl,rfl⟩) | (go_at_call 353;refine (hD _).mono ?_;rintro e w' ⟨rfl,rfl⟩) | (go_at_call 354;refine (hrd _).mono ?_;rintro e w' ⟨rfl,rfl⟩))
    go_loop [9,43] (fun m i=>∃ j:Nat,j ≤ 6 - D.length ∧ i = .int .i64 j ∧ m = .int .u64 ((r * 10 ^ j:Nat):Int)) (fun _ i=>6 - (intOf i).toNat)
    case atStart=>exact ⟨0,by omega,rfl,by simp⟩
    case round=>
     obtain ⟨j,hj,rfl,rfl⟩:=hrel
     by_cases hlt:j < 6 - D.length
     ·
      have hN:r * 10 ^ (j + 1) < 10000000000000000000:=Nat.lt_of_le_of_lt (Nat.mul_le_mul_left _ (Nat.pow_le_pow_right (by omega) hlt)) HL1.out
      have HS:Hid (r * 10 ^ (j + 1) = r * 10 ^ j * 10):=by
       show _ = _
       rw [Nat.pow_succ,Nat.mul_assoc]
      rw [HS.out] at hN
      generalize r * 10 ^ j = N at *
      have hlt':(j:Int) < 6 - (D.length:Int):=by omega
      go_wp2_with fail
      go_round
      case rel=>exact ⟨j + 1,by omega,by go_num,by rw [HS.out];go_num⟩
      case measure=>simp [intOf];omega
     obtain rfl:j = 6 - D.length:=by omega
     have hlt':¬ ((6 - D.length:Nat):Int) < 6 - (D.length:Int):=by omega
     generalize hNN:r * 10 ^ (6 - D.length) = N at *
     have HNN:Hid _:=hNN
     clear hNN
     go_wp2_with fail
     refine (hs _ (by have:=HL1.out;omega)).mono ?_
     rintro e w2 ⟨rfl,hb2⟩
     obtain ⟨c0,c1,f0,f1⟩:=hx1.later hb2
     go_wp2
     exact bodyPost_ret (v:=.tuple #[.agg #[.bool (ov (sgn (mns l) N)),.int .i64 (nn (sgn (mns l) N))],.int .i64 0]) (by simp [results,Tryz.results306,go_sem,c0,c1]) rfl ⟨by rw [HNN.out];rfl,put2 (Below.chain (Below.chain hb0 hb1) hb2) (by omega) _ _⟩
  | false=>
   have hDn:=HN.out rfl
   have HDD:Hid (D.length ≤ 6 ∧ dgs D = true):=by rw [hDn];exact ⟨by simp,rfl⟩
   clear hDn
   have hdg:dgs (A ++ D) = true:=by rw [zdp,(whole_of hw).2.2,HDD.out.2];rfl
   have hlA:=(whole_of hw).2.1
   have hlD:=HDD.out.1
   have hlen:(A ++ D).length ≤ 19:=by rw [List.length_append];omega
   have hrd:=fun w=>zdm (A ++ D) w hlen hdg
   have hlt0:=rd_lt (A ++ D).length (A ++ D) hdg (Nat.le_refl _)
   rw [List.take_of_length_le (Nat.le_refl _)] at hlt0
   have hlt1:rd (A ++ D) * 10 ^ (6 - D.length) < 10000000000000000000:=by
    have e1:rd (A ++ D) * 10 ^ (6 - D.length) < 10 ^ (A ++ D).length * 10 ^ (6 - D.length):=(Nat.mul_lt_mul_right (Nat.pos_of_ne_zero (by simp))).2 hlt0
    rw [← Nat.pow_add] at e1
    have e2:10 ^ ((A ++ D).length + (6 - D.length)) ≤ 10 ^ 19:=Nat.pow_le_pow_right (by omega) (by rw [List.length_append];omega)
    have e3:(10:Nat) ^ 19 = 10000000000000000000:=by decide
    omega
   have hs:=zgx (mns l) (rd (A ++ D) * 10 ^ (6 - D.length))
   have HL1:Hid _:=hlt1
   have HL:Hid _:=hlen
   clear hlt0 hlt1 hdg hlen
   generalize rd (A ++ D) = r at *
   have hap':(A ++ D).length ≤ 1000:=by have:=HL.out;omega
   rw [List.length_append] at hap'
   go_enter Tryz.func306,Tryz.ntmps306
   go_wp2_with (go_at_call 351;refine (hp _).mono ?_;rintro e w' ⟨rfl,rfl⟩)
   refine (hc _).mono ?_
   rintro e w1 ⟨rfl,hb1⟩
   have hx1:=hx.later hb1
   go_wp2_with (first | (go_at_call 352;refine (hA _).mono ?_;rintro e w' ⟨rfl,rfl⟩) | (go_at_call 353;refine (hD _).mono ?_;rintro e w' ⟨rfl,rfl⟩) | (go_at_call 354;refine (hrd _).mono ?_;rintro e w' ⟨rfl,rfl⟩))
   go_loop [9,43] (fun m i=>∃ j:Nat,j ≤ 6 - D.length ∧ i = .int .i64 j ∧ m = .int .u64 ((r * 10 ^ j:Nat):Int)) (fun _ i=>6 - (intOf i).toNat)
   case atStart=>exact ⟨0,by omega,rfl,by simp⟩
   case round=>
    obtain ⟨j,hj,rfl,rfl⟩:=hrel
    by_cases hlt:j < 6 - D.length
    ·
     have hN:r * 10 ^ (j + 1) < 10000000000000000000:=Nat.lt_of_le_of_lt (Nat.mul_le_mul_left _ (Nat.pow_le_pow_right (by omega) hlt)) HL1.out
     have HS:Hid (r * 10 ^ (j + 1) = r * 10 ^ j * 10):=by
      show _ = _
      rw [Nat.pow_succ,Nat.mul_assoc]
     rw [HS.out] at hN
     generalize r * 10 ^ j = N at *
     have hlt':(j:Int) < 6 - (D.length:Int):=by omega
     go_wp2_with fail
     go_round
     case rel=>exact ⟨j + 1,by omega,by go_num,by rw [HS.out];go_num⟩
     case measure=>simp [intOf];omega
    obtain rfl:j = 6 - D.length:=by omega
    have hlt':¬ ((6 - D.length:Nat):Int) < 6 - (D.length:Int):=by omega
    generalize hNN:r * 10 ^ (6 - D.length) = N at *
    have HNN:Hid _:=hNN
    clear hNN
    go_wp2_with fail
    refine (hs _ (by have:=HL1.out;omega)).mono ?_
    rintro e w2 ⟨rfl,hb2⟩
    obtain ⟨c0,c1,f0,f1⟩:=hx1.later hb2
    go_wp2
    exact bodyPost_ret (v:=.tuple #[.agg #[.bool (ov (sgn (mns l) N)),.int .i64 (nn (sgn (mns l) N))],.int .i64 0]) (by simp [results,Tryz.results306,go_sem,c0,c1]) rfl ⟨by rw [HNN.out];rfl,put2 (Below.chain (Below.chain hb0 hb1) hb2) (by omega) _ _⟩
end Go.Proofs.YtjlaihekocjggaaGreatDoor.Fx
namespace Go.Proofs.YtjlaihekocjggaaGreatDoor.Fx
theorem rd_append (x y:List UInt8):rd (x ++ y) = rd x * 10 ^ y.length + rd y:=by
 have key:∀ (y:List UInt8) (a:Nat),y.foldl (fun n c=>n * 10 + (c.toNat - 48)) a = a * 10 ^ y.length + rd y:=by
  intro y
  induction y with
  | nil=>intro a;simp [rd]
  | cons c y ih=>
   intro a
   rw [List.foldl_cons,ih]
   have e:rd (c :: y) = (c.toNat - 48) * 10 ^ y.length + rd y:=by
    show (c :: y).foldl _ 0 = _
    rw [List.foldl_cons,ih]
    simp
   rw [e,List.length_cons,Nat.pow_succ,Nat.add_mul,Nat.mul_assoc,Nat.mul_comm 10]
   omega
 unfold rd
 rw [List.foldl_append]
 exact key y _
theorem digit_toNat {k:Nat} (h:k < 10):(UInt8.ofNat (48 + k)).toNat = 48 + k:=by
 rw [UInt8.toNat_ofNat']
 omega
theorem rd_one {k:Nat} (h:k < 10):rd [UInt8.ofNat (48 + k)] = k:=by
 show 0 * 10 + ((UInt8.ofNat (48 + k)).toNat - 48) = k
 rw [digit_toNat h]
 omega
theorem zhh {k:Nat} (h:k < 10):isDg (UInt8.ofNat (48 + k)) = true:=by
 unfold isDg
 rw [digit_toNat h]
 exact decide_eq_true (by omega)
theorem zdi:∀ (f u:Nat),u < f → rd (Lib.decDigits u) = u ∧ dgs (Lib.decDigits u) = true ∧ (1 ≤ u → (Lib.decDigits u).head? ≠ some 48) ∧ Lib.decDigits u ≠ []
 | 0,u,h=>by omega
 | f + 1,u,h=>by
  by_cases hu:u < 10
  ·
   rw [Lib.decDigits_one hu]
   refine ⟨rd_one hu,by unfold dgs;simp only [List.all_cons,List.all_nil,Bool.and_true];exact zhh hu,fun h1 e=>?_,by simp⟩
   have e2:UInt8.ofNat (48 + u) = 48:=by simpa using e
   have:=digit_toNat hu
   rw [e2] at this
   have:(48:UInt8).toNat = 48:=rfl
   omega
  obtain ⟨h1,h2,h3,h4⟩:=zdi f (u / 10) (by omega)
  have e:Lib.decDigits u = Lib.decDigits (u / 10) ++ [UInt8.ofNat (48 + u % 10)]:=by rw [Lib.decDigits,dif_neg hu]
  rw [e]
  refine ⟨?_,?_,fun _=>?_,by simp⟩
  ·
   rw [rd_append,h1,rd_one (by omega)]
   simp
   omega
  ·
   rw [zdp,h2]
   unfold dgs
   simp only [List.all_cons,List.all_nil,Bool.and_true,Bool.true_and]
   exact zhh (by omega)
  have h5:=h3 (by omega)
  cases hl:Lib.decDigits (u / 10) with
  | nil=>exact (h4 hl).elim
  | cons c r=>
   rw [hl] at h5
   simpa using h5
theorem rd_dec (u:Nat):rd (Lib.decDigits u) = u:=(zdi (u + 1) u (by omega)).1
theorem dgs_dec (u:Nat):dgs (Lib.decDigits u) = true:=(zdi (u + 1) u (by omega)).2.1
theorem head_dec {u:Nat} (h:1 ≤ u):(Lib.decDigits u).head? ≠ some 48:=(zdi (u + 1) u (by omega)).2.2.1 h
theorem dec_ne (u:Nat):Lib.decDigits u ≠ []:=(zdi (u + 1) u (by omega)).2.2.2
theorem zlu {u k:Nat} (h1:10 ^ k ≤ u) (h2:u < 10 ^ (k + 1)):(Lib.decDigits u).length = k + 1:=by
 rw [Lib.decDigits_length]
 exact Lib.nDigits_unique k u h1 h2
theorem six {r:Nat} (h:r < 1000000):∃ l:List UInt8,Lib.decDigits (1000000 + r) = 49 :: l ∧ l.length = 6 ∧ dgs l = true ∧ rd l = r:=by
 have hlen:=zlu (u:=1000000 + r) (k:=6) (by omega) (by omega)
 have hrd:=rd_dec (1000000 + r)
 have hdg:=dgs_dec (1000000 + r)
 cases hl:Lib.decDigits (1000000 + r) with
 | nil=>exact (dec_ne _ hl).elim
 | cons c l=>
  rw [hl] at hlen hrd hdg
  have hll:l.length = 6:=by simpa using hlen
  have hd2:isDg c = true ∧ dgs l = true:=by
   unfold dgs at *
   simpa using hdg
  have e:rd (c :: l) = (c.toNat - 48) * 10 ^ 6 + rd l:=by
   have:=rd_append [c] l
   rw [hll] at this
   have e1:rd [c] = c.toNat - 48:=by simp [rd]
   rw [e1] at this
   exact this
  have hlt:rd l < 1000000:=by
   have:=rd_lt 6 l hd2.2 (by omega)
   rw [List.take_of_length_le (by omega)] at this
   exact this
  have hc:=hd2.1
  unfold isDg at hc
  have hc2:=of_decide_eq_true hc
  have e3:(10:Nat) ^ 6 = 1000000:=by decide
  rw [e3] at e
  have hc1:c.toNat - 48 = 1:=by omega
  have hcc:c = 49:=UInt8.toNat_inj.1 (by show c.toNat = 49;omega)
  rw [hcc]
  exact ⟨l,rfl,hll,hd2.2,by omega⟩
theorem znr (l:List UInt8):∃ k,l = Lib.trimRightB l 48 ++ List.replicate k 48:=by
 unfold Lib.trimRightB
 have key:∀ m:List UInt8,∃ k,m = List.replicate k 48 ++ m.dropWhile (· == 48):=by
  intro m
  induction m with
  | nil=>exact ⟨0,rfl⟩
  | cons c m ih=>
   by_cases h:c = 48
   ·
    obtain ⟨k,e⟩:=ih
    refine ⟨k + 1,?_⟩
    subst h
    simp [List.replicate_succ]
    exact e
   refine ⟨0,?_⟩
   simp [h]
 obtain ⟨k,e⟩:=key l.reverse
 refine ⟨k,?_⟩
 have:=congrArg List.reverse e
 rw [List.reverse_reverse,List.reverse_append,List.reverse_replicate] at this
 exact this
theorem zny (k:Nat):rd (List.replicate k 48) = 0:=by
 induction k with
 | zero=>rfl
 | succ k ih=>
  rw [List.replicate_succ',rd_append,ih]
  simp [rd]
theorem trim_last (l:List UInt8):(Lib.trimRightB l 48).getLast? ≠ some 48:=by
 unfold Lib.trimRightB
 rw [List.getLast?_reverse]
 intro h
 have:=List.head?_dropWhile_not (· == (48:UInt8)) l.reverse
 rw [h] at this
 simp at this
theorem frac_facts {r:Nat} (h:r < 1000000):dgs (fracT r) = true ∧ (fracT r).length ≤ 6 ∧ rd (fracT r) * 10 ^ (6 - (fracT r).length) = r ∧ (fracT r).getLast? ≠ some 48:=by
 obtain ⟨l,e,h6,hd,hr⟩:=six h
 unfold fracT
 rw [e]
 have et:(49 :: l).tail = l:=rfl
 rw [et]
 obtain ⟨k,hk⟩:=znr l
 have hlast:=trim_last l
 generalize Lib.trimRightB l 48 = t at *
 have hlen:t.length + k = 6:=by
  have:=congrArg List.length hk
  rw [List.length_append,List.length_replicate] at this
  omega
 refine ⟨?_,by omega,?_,hlast⟩
 ·
  rw [hk,zdp] at hd
  simp at hd
  exact hd.1
 rw [hk,rd_append,zny,List.length_replicate] at hr
 have:6 - t.length = k:=by omega
 rw [this]
 omega
open Go.RowKit
def gP (m:Bool) (t:List UInt8):Option (Option Int):=if (fWhole (cutP t).1 && (!(cutP t).2.2 || fDigits (cutP t).2.1 6)) = true then some (sgn m (rd ((cutP t).1 ++ (cutP t).2.1) * 10 ^ (6 - (cutP t).2.1.length))) else none
theorem gP_parse {l:List UInt8} (h:¬ l = [111,118,102]):fParse l = gP (mns l) (bare l):=by
 unfold fParse okT magT gP
 rw [if_neg h]
def good (k:Nat) (t:List UInt8):Prop:=1 ≤ k ∧ k ≤ 13 ∧ (k = 1 ∨ t.head? ≠ some 48)
theorem parts {t:List UInt8} {k:Nat} (hk:k < t.length):t = t.take k ++ t[k] :: t.drop (k + 1):=by
 rw [← List.drop_eq_getElem_cons hk,List.take_append_drop]
theorem dec_le:∀ (n u:Nat),u < 10 ^ (n + 1) → (Lib.decDigits u).length ≤ n + 1
 | 0,u,h=>by
  by_cases h1:1 ≤ u
  ·
   rw [zlu (k:=0) (by simpa using h1) (by simpa using h)]
   omega
  have:u = 0:=by omega
  subst this
  simp [Lib.decDigits]
 | n + 1,u,h=>by
  by_cases h1:u < 10 ^ (n + 1)
  ·
   have:=dec_le n u h1
   omega
  rw [zlu (k:=n + 1) (by omega) h]
  omega
end Go.Proofs.YtjlaihekocjggaaGreatDoor.Fx
