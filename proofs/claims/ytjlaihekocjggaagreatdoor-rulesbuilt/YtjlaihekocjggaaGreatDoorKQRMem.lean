/- Texts that the others lean on. -/
import Derived.Maps.AppendAt
import Derived.Test.YtjlaihekocjggaaGreatDoorKLB2
import Derived.Test.YtjlaihekocjggaaGreatDoorKLB3
import Derived.Test.YtjlaihekocjggaaGreatDoorKLB4
import Derived.Test.YtjlaihekocjggaaGreatDoorKMX
import Derived.Test.YtjlaihekocjggaaGreatDoorKMC
import Derived.Test.YtjlaihekocjggaaGreatDoorKESp
namespace Go.Proofs.YtjlaihekocjggaaGreatDoor
open Go.RowKit
abbrev Rl:=Lb.Rl
structure Ru where
 nm:Str
 e:Ex
 st:List Pr
structure Gr where
 name:Str
 ev:Int
 rs:List Ru
structure Cf where
 rl:List Rl
 gs:List Gr
def cf0:Cf:=⟨[],[]⟩
def gW:Str:=[103,114,111,117,112,32]
def eW:Str:=[32,101,118,101,114,121,32]
def rW:Str:=[114,101,99,111,114,100,32]
def bW:Str:=[32,61,32]
/-! ### A group's line -/
def hdN (l:Str):Str:=(Lib.cut (Lib.trimPrefix l gW) eW).1
def hdT (l:Str):Str:=(Lib.cut (Lib.trimPrefix l gW) eW).2.1
def hdL (n:Str) (v:Int):Str:=gW ++ n ++ eW ++ Lib.itoa v
def isHd (n:Str) (v:Int):Bool:=fName n && decide (1 ≤ v) && decide (v ≤ 20)
def hdOf (l:Str):Option (Str × Int):=
 match Lib.atoiAll (hdT l) with
 | .ok v=>if isHd (hdN l) v = true then (if hdL (hdN l) v = l then some (hdN l,v) else none) else none
 | _=>none
/-! ### A record's line -/
def ub:Bool → Str → Nat
 | _,[]=>0
 | q,c :: r=>if q = true ∧ c = 92 then (match r with | []=>1 | _ :: t=>ub q t + 2) else if c = 34 then ub (!q) r + 1 else if c = 32 ∧ q = false then 0 else ub q r + 1
def rcR (l:Str):Str:=Lib.trimPrefix l rW
def rcS (l:Str):Str:=(rcR l).take (ub false (rcR l))
def rcT (l:Str):Str:=(rcR l).drop (ub false (rcR l))
def rcX (l:Str):Str:=(rcR l).drop (ub false (rcR l) + 3)
def rcM (l:Str):Str:=fGet (parseL (rcS l)) nm
def rcOk (l:Str):Bool:=Lib.hasPrefix (rcT l) bW && decide (parseE (rcS l) = 0) && fName (rcM l)
/-! ### A relabel rule's line -/
def mkK (s:Str):Int:=if s = [61] then 1 else if s = [33,61] then 2 else if s = [94,61] then 3 else if s = [42,61] then 4 else 0
def rlOf (t:List Str):Rl:=
 if t.getD 0 [] = [107,101,101,112] then ⟨1,⟨t.getD 1 [],mkK (t.getD 2 []),t.getD 3 []⟩,[],[]⟩
 else if t.getD 0 [] = [100,114,111,112] then ⟨2,⟨t.getD 1 [],mkK (t.getD 2 []),t.getD 3 []⟩,[],[]⟩
 else if t.getD 0 [] = [114,101,112,108,97,99,101] then ⟨3,⟨t.getD 1 [],mkK (t.getD 2 []),t.getD 3 []⟩,t.getD 4 [],t.getD 5 []⟩
 else if t.getD 0 [] = [108,97,98,101,108,100,114,111,112] then ⟨4,⟨[],0,t.getD 1 []⟩,[],[]⟩
 else ⟨0,⟨[],0,[]⟩,[],[]⟩
def six6 (l:List Str):List Str:=[l.getD 0 [],l.getD 1 [],l.getD 2 [],l.getD 3 [],l.getD 4 [],l.getD 5 []]
def rlP (l:Str):Rl:=if scE l = 0 then rlOf (six6 ((scL l).map (·.t))) else ⟨0,⟨[],0,[]⟩,[],[]⟩
def rlOk (l:Str):Bool:=decide (scE l = 0) && (Lb.fPrintR (rlP l) == l)
abbrev cellsP (l:List Pr):List Value:=Lb.cellsP l
def cellsR (l:List Rl):List Value:=l.flatMap fun r=>[.int .i64 r.act,tx r.frm.name,.int .i64 r.frm.kind,tx r.frm.text,tx r.tgt,tx r.txt]
/-! ### Slices bounded -/
theorem SlP.bound {P:Nat → Prop} {w:World} {v:Value} {n:Nat} {cs:List Value} (h:SlP P w v n cs) (hc:0 < n → 0 < cs.length):SlP (fun b=>P b ∧ b < w.heap.size) w v n cs:=by
 obtain ⟨ao,cap,e,hcap,h4⟩:=h
 refine ⟨ao,cap,e,hcap,fun hp=>?_⟩
 obtain ⟨b,off,e1,hl,hcs⟩:=h4 hp
 refine ⟨b,off,e1,⟨hl,?_⟩,hcs⟩
 have h0:=hcs 0 (hc hp)
 rw [List.getElem?_eq_getElem (hc hp)] at h0
 exact World.block_lt_of_cell? _ _ h0
theorem TrP.bound {P:Nat → Prop} {w:World}:∀ (e:Ex) {cs:Array Value},TrP P w e cs → TrP (fun b=>P b ∧ b < w.heap.size) w e cs:=by
 refine Ex.ind _ ?_
 intro e ih cs h
 rw [zfm] at h ⊢
 obtain ⟨vm,vn,vk,kss,h1,h2,h3,h4,h5,h6⟩:=h
 refine ⟨vm,vn,vk,kss,h1,h2.bound (fun hp=>by rw [zcu];omega),h3.bound (fun hp=>by simpa using hp),h4.bound (fun hp=>?_),h5,fun i x hx hi=>ih x hx (h6 i x hx hi)⟩
 have hx:e.ks[0]? = some e.ks[0]:=List.getElem?_eq_getElem hp
 have r:=(h6 0 e.ks[0] (List.getElem_mem hp) hx).row.1
 cases kss with
 | nil=>simp at h5;omega
 | cons k t=>
  have r:k.size = 13:=r
  simp [r]
  omega
/-! ### Rules, groups, configs -/
def ruA (r:Ru) (ce:Array Value) (vs:Value):Array Value:=#[tx r.nm] ++ ce ++ #[vs]
def RuP (P:Nat → Prop) (w:World) (r:Ru) (cs:Array Value):Prop:=∃ ce vs,cs = ruA r ce vs ∧ TrP P w r.e ce ∧ SlP P w vs r.st.length (cellsP r.st)
theorem RuP.row {P:Nat → Prop} {w:World} {r:Ru} {cs:Array Value} (h:RuP P w r cs):Row 15 cs:=by
 obtain ⟨ce,vs,rfl,ht,⟨ao,cap,rfl,_⟩⟩:=h
 obtain ⟨h1,h2⟩:=ht.row
 refine ⟨by simp [ruA,h1],?_⟩
 simp only [ruA,Array.toList_append,List.all_append,h2]
 rfl
theorem RuP.off {P:Nat → Prop} {X:List Nat} {w w':World} (ho:Off X w w') (hX:∀ x ∈ X,¬ P x) {r:Ru} {cs:Array Value} (h:RuP P w r cs):RuP P w' r cs:=by
 obtain ⟨ce,vs,e,ht,hs⟩:=h
 exact ⟨ce,vs,e,TrP.off ho hX _ ht,hs.off ho hX⟩
theorem RuP.later {P:Nat → Prop} {w w':World} (hb:Below w.heap.size w w') {r:Ru} {cs:Array Value} (h:RuP P w r cs):RuP P w' r cs:=h.off (Off.of hb []) (fun _ hx=>by cases hx)
theorem RuP.mono {P P':Nat → Prop} {w:World} (hP:∀ b,P b → P' b) {r:Ru} {cs:Array Value} (h:RuP P w r cs):RuP P' w r cs:=by
 obtain ⟨ce,vs,e,ht,hs⟩:=h
 exact ⟨ce,vs,e,TrP.mono hP _ ht,hs.mono hP⟩
def RsO (base:Nat) (P:Nat → Prop) (w:World) (v:Value) (l:List Ru):Prop:=
 ∃ rss:List (Array Value),w.ownsRow base 65 15 v l.length (rss.flatMap (·.toList)) ∧ rss.length = l.length ∧ ∀ (k:Nat) r,l[k]? = some r → ∃ cs,rss[k]? = some cs ∧ RuP P w r cs
def RsP (P:Nat → Prop) (w:World) (v:Value) (l:List Ru):Prop:=
 ∃ rss:List (Array Value),SlP P w v l.length (rss.flatMap (·.toList)) ∧ rss.length = l.length ∧ ∀ (k:Nat) r,l[k]? = some r → ∃ cs,rss[k]? = some cs ∧ RuP P w r cs
theorem RsO.to {base:Nat} {P:Nat → Prop} {w:World} {v:Value} {l:List Ru} (h:RsO base P w v l) (hP:∀ b,P b → base ≤ b):RsP (fun b=>base ≤ b) w v l:=by
 obtain ⟨rss,h1,h2,h3⟩:=h
 refine ⟨rss,Sl.owns h1 h1.1,h2,fun k r hk=>?_⟩
 obtain ⟨cs,hc,hr⟩:=h3 k r hk
 exact ⟨cs,hc,hr.mono hP⟩
def cellsG (gs:List Gr) (vs:List Value):List Value:=(gs.zip vs).flatMap fun x=>[tx x.1.name,.int .i64 x.1.ev,x.2]
theorem zhl (gs:List Gr) (vs:List Value) (h:vs.length = gs.length):(cellsG gs vs).length = gs.length * 3:=by
 unfold cellsG
 rw [List.length_flatMap]
 simp only [List.length_cons,List.length_nil,List.map_const',List.sum_replicate_nat,List.length_zip,h,Nat.min_self]
def GsP (P:Nat → Prop) (w:World) (v:Value) (l:List Gr):Prop:=
 ∃ vs:List Value,vs.length = l.length ∧ SlP P w v l.length (cellsG l vs) ∧ ∀ (i:Nat) g,l[i]? = some g → ∃ u,vs[i]? = some u ∧ RsP P w u g.rs
def CfP (P:Nat → Prop) (w:World) (c:Cf) (cs:Array Value):Prop:=
 ∃ vr vg,cs = #[vr,vg] ∧ SlP P w vr c.rl.length (cellsR c.rl) ∧ GsP P w vg c.gs
/-! ### What a reading holds -/
structure Rdg (base:Nat) (F:Nat → Prop) (w:World) (b:Nat) (c:Cf) (vr vg:Value) (vs:List Value):Prop where
 bb:base ≤ b
 hd:w.heap[b]? = some (.cells #[vr,vg] 84)
 rl:w.ownsRow base 59 6 vr c.rl.length (cellsR c.rl)
 gs:w.ownsRow base 138 3 vg c.gs.length (cellsG c.gs vs)
 len:vs.length = c.gs.length
 rs:∀ (i:Nat) g,c.gs[i]? = some g → ∃ v,vs[i]? = some v ∧ RsO base F w v g.rs
 ap:∀ (i j:Nat) v u,i ≠ j → vs[i]? = some v → vs[j]? = some u → v.ownBlock = none ∨ v.ownBlock ≠ u.ownBlock
 fr:∀ x,F x → x < w.heap.size ∧ base ≤ x ∧ x ≠ b ∧ vr.ownBlock ≠ some x ∧ vg.ownBlock ≠ some x ∧ ∀ v ∈ vs,v.ownBlock ≠ some x
theorem zal {w w':World} {X:List Nat} {base size n:Nat} {e:TypeId} {v:Value} {cs:List Value} (h:w.ownsRow base e size v n cs) (ho:Off X w w') (hX:∀ x ∈ X,v.ownBlock ≠ some x):w'.ownsRow base e size v n cs:=by
 refine ⟨h.1,?_⟩
 rcases h.2 with h0 | ⟨g,cap,cur,hv,hg0,hg,hn,hm,hs,ht⟩
 ·
  exact Or.inl h0
 refine Or.inr ⟨g,cap,cur,hv,hg0,ho.heap hg (fun hm=>?_),hn,hm,hs,ht⟩
 exact hX g hm (by rw [hv];rfl)
theorem zan {w:World} {base size n:Nat} {e:TypeId} {v:Value} {cs:List Value} (h:w.ownsRow base e size v n cs):∀ g,v.ownBlock = some g → base ≤ g ∧ g < w.heap.size:=fun g hg=>World.ownsRow.lt h g hg
theorem RsO.off {base:Nat} {P:Nat → Prop} {X:List Nat} {w w':World} {v:Value} {l:List Ru} (h:RsO base P w v l) (ho:Off X w w') (hX:∀ x ∈ X,¬ P x) (hv:∀ x ∈ X,v.ownBlock ≠ some x):RsO base P w' v l:=by
 obtain ⟨rss,h1,h2,h3⟩:=h
 refine ⟨rss,zal h1 ho hv,h2,fun k r hk=>?_⟩
 obtain ⟨cs,hc,hr⟩:=h3 k r hk
 exact ⟨cs,hc,hr.off ho hX⟩
theorem Rdg.later {base:Nat} {F:Nat → Prop} {w w':World} {b:Nat} {c:Cf} {vr vg:Value} {vs:List Value} (h:Rdg base F w b c vr vg vs) (hb:Below w.heap.size w w'):Rdg base F w' b c vr vg vs:=
 ⟨h.bb,zab hb h.hd,zal h.rl (Off.of hb []) (fun _ hx=>by cases hx),zal h.gs (Off.of hb []) (fun _ hx=>by cases hx),h.len,
  fun i g hi=>by obtain ⟨v,hv,hr⟩:=h.rs i g hi;exact ⟨v,hv,hr.off (Off.of hb []) (fun _ hx=>by cases hx) (fun _ hx=>by cases hx)⟩,h.ap,
  fun x hx=>by
   obtain ⟨f1,f2⟩:=h.fr x hx
   have:=hb.size
   exact ⟨by omega,f2⟩⟩
end Go.Proofs.YtjlaihekocjggaaGreatDoor
