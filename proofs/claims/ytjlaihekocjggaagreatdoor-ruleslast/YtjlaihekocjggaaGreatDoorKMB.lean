/- Texts that the others lean on. -/
import Derived.Shelf.Small.Strs
import Derived.Shelf.Strings.Search3
import Derived.Shelf.Slices.Turned
import Derived.Test.YtjlaihekocjggaaGreatDoorProg
import Derived.Shelf.Strings.SlTrimAscii
import Derived.Shelf.Strings.Trim
import Derived.Shelf.Strings.Prefix
import Derived.Shelf.Strconv.AtoiAll
import Derived.Shelf.Strconv.Itoa3
import Derived.Deep.MidRow
import Derived.Laws.ResultCell
import Derived.Test.YtjlaihekocjggaaGreatDoorKMA
import Derived.Test.YtjlaihekocjggaaGreatDoorKMAF
set_option maxHeartbeats 16000000
namespace Go.Proofs.YtjlaihekocjggaaGreatDoor
open Go.RowKit
structure Tk where
 k:Int
 p:Int
 t:Str
 o:Bool
 n:Int
 d:Int
def tk0:Tk:=⟨0,0,[],false,0,0⟩
def tIdent (s:Str):Tk:=⟨1,0,s,false,0,0⟩
def tNum (v:Int):Tk:=⟨2,0,[],false,v,0⟩
def tDur (n:Int):Tk:=⟨3,0,[],false,0,n⟩
def tText (s:Str):Tk:=⟨4,0,s,false,0,0⟩
def tSign (s:Str):Tk:=⟨5,0,s,false,0,0⟩
def Tk.put (x:Tk) (p:Int):Tk:=⟨x.k,p,x.t,x.o,x.n,x.d⟩
/-! ### What a text begins with -/
def blB (c:UInt8):Bool:=[32,9].contains c
def lead (s:Str):Str:=s.dropWhile blB
def dgN (s:Str):Nat:=(s.takeWhile digB).length
def idN (s:Str):Nat:=(s.takeWhile nameCh).length
def decN (s:Str):Nat:=if s.head? = some 46 then (if dgN s.tail = 0 then 0 else 1 + dgN s.tail) else 0
def duOk (s:Str):Bool:=Fx.fDigits s 3 && (decide (s.length = 1) || decide (s.head? ≠ some 48)) && decide (1 ≤ Fx.rd s) && decide (Fx.rd s ≤ 100)
def tkNum (s:Str):Option (Tk × Nat):=match Fx.fParse s with
 | some (some v)=>some (tNum v,s.length)
 | _=>none
def tkDur (s:Str):Option (Tk × Nat):=if duOk s = true then some (tDur (Fx.rd s:Nat),s.length + 1) else none
def tkAmt (s:Str):Option (Tk × Nat):=if (s.drop (dgN s)).head? = some 116 then tkDur (s.take (dgN s)) else tkNum (s.take (dgN s + decN (s.drop (dgN s))))
def tkId (s:Str):Option (Tk × Nat):=if fName s = true then some (tIdent s,s.length) else none
def tkTx (s:Str):Option (Tk × Nat):=match qd s.tail with
 | some x=>if x.1.length ≤ 30 then some (tText x.1,x.2 + 1) else none
 | none=>none
def signs:List Str:=[[40],[41],[123],[125],[91],[93],[44],[43],[45],[42],[47],[61],[94,61],[42,61],[33,61],[61,61],[62],[60],[62,61],[60,61]]
def isSg (s:Str):Bool:=signs.contains s
def tkSg (s:Str):Option (Tk × Nat):=if 2 ≤ s.length ∧ isSg (s.take 2) = true then some (tSign (s.take 2),2) else if isSg (s.take 1) = true then some (tSign (s.take 1),1) else none
def tok (s:Str):Option (Tk × Nat):=if digB (s.headD 0) = true then tkAmt s else if nameCh (s.headD 0) = true then tkId (s.take (idN s)) else if s.headD 0 = 34 then tkTx s else tkSg s
/-! ### Runs -/
theorem zda (s:Str):(lead s).length ≤ s.length:=(List.dropWhile_sublist _).length_le
theorem run_len {p:UInt8 → Bool} {s:Str} {k:Nat} (hk:k ≤ s.length) (h:∀ i (hi:i < s.length),i < k → p s[i] = true) (he:∀ (hl:k < s.length),p s[k] = false):(s.takeWhile p).length = k:=by
 induction s generalizing k with
 | nil=>simp at hk;subst hk;rfl
 | cons c s ih=>
  cases k with
  | zero=>
   have:=he (by simp)
   simp at this
   simp [this]
  | succ k=>
   have h0:=h 0 (by simp) (by omega)
   simp at h0
   rw [List.takeWhile_cons_of_pos h0,List.length_cons,ih (by simpa using hk) (fun i hi hlt=>h (i + 1) (by simpa using hi) (by omega)) (fun hl=>he (by simpa using hl))]
theorem run_le {p:UInt8 → Bool} (s:Str):(s.takeWhile p).length ≤ s.length:=(List.takeWhile_sublist _).length_le
theorem zno (s:Str):dgN s ≤ s.length:=run_le s
theorem idN_le (s:Str):idN s ≤ s.length:=run_le s
theorem decN_le (s:Str):decN s ≤ s.length:=by
 unfold decN
 split
 ·
  split
  ·
   omega
  have:=zno s.tail
  cases s with
  | nil=>rename_i h _;cases h
  | cons c s=>simp at *;omega
 omega
/-! ### Signs in order -/
theorem zmn {c:UInt8} {r:Str} {k:Nat}:(lead (r.drop (k - 1))).length < (c :: r).length:=by
 have:=zda (r.drop (k - 1))
 simp at *
 omega
def push (x:Tk):Nat ⊕ List Tk → Nat ⊕ List Tk
 | .inl p=>.inl p
 | .inr l=>.inr (x :: l)
def scanF (n:Nat):Nat → Str → Nat ⊕ List Tk
 | 0,_=>.inr []
 | _ + 1,[]=>.inr []
 | k + 1,c :: r=>match tok (c :: r) with
  | none=>.inl (n - (c :: r).length)
  | some x=>push (x.1.put ((n - (c :: r).length:Nat):Int)) (scanF n k (lead (r.drop (x.2 - 1))))
theorem znx (n:Nat):∀ (k j:Nat) (s:Str),s.length ≤ k → s.length ≤ j → scanF n k s = scanF n j s:=by
 intro k
 induction k with
 | zero=>
  intro j s h _
  have h0:s.length = 0:=by omega
  obtain rfl:=List.eq_nil_of_length_eq_zero h0
  cases j <;> rfl
 | succ k ih=>
  intro j s h hj
  cases s with
  | nil=>cases j <;> rfl
  | cons c r=>
   cases j with
   | zero=>simp at hj
   | succ j=>
    show (match tok (c :: r) with | none=>_ | some x=>_) = (match tok (c :: r) with | none=>_ | some x=>_)
    cases tok (c :: r) with
    | none=>rfl
    | some x=>
     have d:=zmn (c:=c) (r:=r) (k:=x.2)
     show push _ _ = push _ _
     rw [ih j (lead (r.drop (x.2 - 1))) (by omega) (by omega)]
def scanG (n:Nat) (s:Str):Nat ⊕ List Tk:=scanF n s.length s
theorem zjb (n:Nat):scanG n [] = .inr []:=rfl
theorem zha {n:Nat} {s:Str} (hs:s ≠ []) (h:tok s = none):scanG n s = .inl (n - s.length):=by
 cases s with
 | nil=>exact absurd rfl hs
 | cons c r=>
  show (match tok (c :: r) with | none=>_ | some x=>_) = _
  rw [h]
theorem zgz {n:Nat} {s:Str} {x:Tk} {k:Nat} (hs:s ≠ []) (h:tok s = some (x,k)) (hk:1 ≤ k):scanG n s = push (x.put ((n - s.length:Nat):Int)) (scanG n (lead (s.drop k))):=by
 cases s with
 | nil=>exact absurd rfl hs
 | cons c r=>
  have d:=zmn (c:=c) (r:=r) (k:=k)
  show (match tok (c :: r) with | none=>_ | some x=>_) = _
  rw [h]
  show push _ (scanF n r.length (lead (r.drop (k - 1)))) = _
  obtain ⟨j,rfl⟩:∃ j,k = j + 1:=⟨k - 1,by omega⟩
  rw [znx n r.length _ _ (by simp at d;simpa using by omega) (Nat.le_refl _)]
  rfl
def pre (l:List Tk):Nat ⊕ List Tk → Nat ⊕ List Tk
 | .inl p=>.inl p
 | .inr m=>.inr (l ++ m)
theorem pre_nil (x:Nat ⊕ List Tk):pre [] x = x:=by cases x <;> rfl
theorem pre_push (l:List Tk) (x:Tk) (y:Nat ⊕ List Tk):pre l (push x y) = pre (l ++ [x]) y:=by cases y <;> simp [pre,push]
def big (s:Str):Bool:=decide (600 < s.length)
def sc (s:Str):Nat ⊕ List Tk:=scanG s.length (lead s)
def tEnd (n:Nat):Tk:=⟨0,n,[],false,0,0⟩
def scE (s:Str):Int:=if big s = true then 11 else match sc s with
 | .inl _=>70
 | .inr _=>0
def scP (s:Str):Int:=if big s = true then 0 else match sc s with
 | .inl p=>(p:Nat)
 | .inr _=>0
def scL (s:Str):List Tk:=if big s = true then [] else match sc s with
 | .inl _=>[]
 | .inr l=>l ++ [tEnd s.length]
theorem zmp {s:Str} (h:600 < s.length):scE s = 11 ∧ scP s = 0 ∧ scL s = []:=by
 have:big s = true:=decide_eq_true h
 unfold scE scP scL
 rw [this]
 exact ⟨rfl,rfl,rfl⟩
theorem sc_bad {s:Str} {p:Nat} (h:¬ 600 < s.length) (e:sc s = .inl p):scE s = 70 ∧ scP s = p ∧ scL s = []:=by
 have:big s = false:=decide_eq_false h
 unfold scE scP scL
 rw [this,e]
 exact ⟨rfl,rfl,rfl⟩
theorem sc_ok {s:Str} {l:List Tk} (h:¬ 600 < s.length) (e:sc s = .inr l):scE s = 0 ∧ scP s = 0 ∧ scL s = l ++ [tEnd s.length]:=by
 have:big s = false:=decide_eq_false h
 unfold scE scP scL
 rw [this,e]
 exact ⟨rfl,rfl,rfl⟩
structure Mt where
 name:Str
 kind:Int
 text:Str
structure Ex where
 k:Int
 p:Int
 o:Bool
 v:Int
 s:Str
 m:List Mt
 r:Int
 b1:Bool
 b2:Bool
 b3:Bool
 b4:Bool
 ns:List Str
 ks:List Ex
def ex0:Ex:=⟨0,0,false,0,[],[],0,false,false,false,false,[],[]⟩
abbrev Er:=Int × Int
abbrev Rs (α:Type):=Er ⊕ (α × List Tk)
def bnd {α β:Type} (r:Er ⊕ α) (k:α → Er ⊕ β):Er ⊕ β:=match r with
 | .inl e=>.inl e
 | .inr x=>k x
/-! ### Words -/
def isAggB (s:Str):Bool:=s == [115,117,109] || s == [109,105,110] || s == [109,97,120] || s == [99,111,117,110,116] || s == [97,118,103]
def wOn:Str:=[111,110]
def wIgn:Str:=[105,103,110,111,114,105,110,103]
def wBy:Str:=[98,121]
def wWo:Str:=[119,105,116,104,111,117,116]
def isModB (s:Str):Bool:=s == wOn || s == wIgn
def isGrpB (s:Str):Bool:=s == wBy || s == wWo
def lv (s:Str):Int:=if (s == [62] || s == [60] || s == [62,61] || s == [60,61] || s == [61,61] || s == [33,61]) = true then 1 else if (s == [43] || s == [45]) = true then 2 else if (s == [42] || s == [47]) = true then 3 else 0
def mkd (s:Str):Int:=if s = [61] then 1 else if s = [33,61] then 2 else if s = [94,61] then 3 else if s = [42,61] then 4 else 0
def nmL:Str:=[95,95,110,97,109,101,95,95]
/-! ### Reading -/
def hd (q:Int) (l:List Tk):Tk:=l.headD ⟨0,q,[],false,0,0⟩
def sg (t:Tk) (s:Str):Bool:=t.k == 5 && t.t == s
def bad (q:Int) (l:List Tk) (why:Int):Er:=((hd q l).p,why)
def lsF {α:Type} (q:Int) (cl:Str) (item:List Tk → Rs α) (few:List α → Bool):Nat → Bool → List α → List Tk → Rs (List α)
 | 0,_,_,l=>.inl (bad q l 71)
 | f + 1,first,acc,l=>
  if sg (hd q l) cl = true then (if few acc = true then .inr (acc,l.tail) else .inl (bad q l 32))
  else if first = false ∧ sg (hd q l) [44] = false then .inl (bad q l 71)
  else bnd (item (if first = true then l else l.tail)) fun x=>lsF q cl item few f false (acc ++ [x.1]) x.2
def nmI (q:Int) (l:List Tk):Rs Str:=if (hd q l).k = 1 then .inr ((hd q l).t,l.tail) else .inl (bad q l 71)
def mtI (q:Int) (l:List Tk):Rs Mt:=
 if (hd q l).k ≠ 1 then .inl (bad q l 71)
 else if (hd q l.tail).k ≠ 5 ∨ mkd (hd q l.tail).t = 0 then .inl (bad q l.tail 71)
 else if (hd q l.tail.tail).k ≠ 4 then .inl (bad q l.tail.tail 71)
 else .inr (⟨(hd q l).t,mkd (hd q l.tail).t,(hd q l.tail.tail).t⟩,l.tail.tail.tail)
def once:List Str → Bool
 | []=>true
 | x :: l=>!l.contains x && once l
def fewN (l:List Str):Bool:=decide (l.length ≤ 8) && once l
def fewM (l:List Mt):Bool:=decide (l.length ≤ 8)
def nmP (q:Int) (l:List Tk):Rs (List Str):=if sg (hd q l) [40] = true then lsF q [41] (nmI q) fewN (l.length + 1) true [] l.tail else .inl (bad q l 71)
def brP (q:Int) (a:List Mt) (l:List Tk):Rs (List Mt):=if sg (hd q l) [123] = true then lsF q [125] (mtI q) fewM (l.length + 1) true a l.tail else .inr (a,l)
def wnP (q:Int) (l:List Tk):Rs Int:=
 if sg (hd q l) [91] = false then .inr (0,l)
 else if (hd q l.tail).k ≠ 3 then .inl (bad q l.tail 71)
 else if sg (hd q l.tail.tail) [93] = false then .inl (bad q l.tail.tail 71)
 else .inr ((hd q l.tail).d,l.tail.tail.tail)
def eNum (p:Int) (o:Bool) (v:Int):Ex:=⟨1,p,o,v,[],[],0,false,false,false,false,[],[]⟩
def eSel (p:Int) (m:List Mt) (r:Int):Ex:=⟨2,p,false,0,[],m,r,false,false,false,false,[],[]⟩
def eCall (p:Int) (s:Str) (a:Ex):Ex:=⟨3,p,false,0,s,[],0,false,false,false,false,[],[a]⟩
def eAgg (p:Int) (s:Str) (b1 b2:Bool) (ns:List Str) (a:Ex):Ex:=⟨4,p,false,0,s,[],0,b1,b2,false,false,ns,[a]⟩
def eBin (p:Int) (s:Str) (b3 b4:Bool) (ns:List Str) (a b:Ex):Ex:=⟨5,p,false,0,s,[],0,false,false,b3,b4,ns,[a,b]⟩
def eNeg (p:Int) (a:Ex):Ex:=⟨6,p,false,0,[],[],0,false,false,false,false,[],[a]⟩
def selA (q:Int) (l:List Tk):List Mt:=if (hd q l).k = 1 then [⟨nmL,1,(hd q l).t⟩] else []
def selL (q:Int) (l:List Tk):List Tk:=if (hd q l).k = 1 then l.tail else l
def selP (q:Int) (l:List Tk):Rs Ex:=bnd (brP q (selA q l) (selL q l)) fun x=>bnd (wnP q x.2) fun y=>.inr (eSel (hd q l).p x.1 y.1,y.2)
structure Md where
 on:Bool
 ig:Bool
 ns:List Str
def hasMod (q:Int) (l:List Tk):Bool:=(hd q l).k == 1 && isModB (hd q l).t && sg (hd q l.tail) [40]
def modP (q:Int) (l:List Tk):Rs Md:=if hasMod q l = false then .inr (⟨false,false,[]⟩,l) else bnd (nmP q l.tail) fun x=>.inr (⟨(hd q l).t == wOn,(hd q l).t == wIgn,x.1⟩,x.2)
def isOp (q:Int) (lev:Int) (l:List Tk):Bool:=(hd q l).k == 5 && lv (hd q l).t == lev
def joinP (q:Int) (u:List Tk → Rs Ex) (e:Ex) (l:List Tk):Rs Ex:=bnd (modP q l.tail) fun x=>bnd (u x.2) fun y=>.inr (eBin (hd q l).p (hd q l).t x.1.on x.1.ig x.1.ns e y.1,y.2)
def chF (q:Int) (lev:Int) (u:List Tk → Rs Ex):Nat → Ex → List Tk → Rs Ex
 | 0,e,l=>.inr (e,l)
 | f + 1,e,l=>if isOp q lev l = false then .inr (e,l) else bnd (joinP q u e l) fun x=>chF q lev u f x.1 x.2
def chP (q:Int) (lev:Int) (u:List Tk → Rs Ex) (l:List Tk):Rs Ex:=bnd (u l) fun x=>chF q lev u (x.2.length + 1) x.1 x.2
def cmpP (q:Int) (u:List Tk → Rs Ex):List Tk → Rs Ex:=chP q 1 (chP q 2 (chP q 3 u))
def brkP (q:Int) (c:List Tk → Rs Ex) (l:List Tk):Rs Ex:=if sg (hd q l) [40] = false then .inl (bad q l 71) else bnd (c l.tail) fun x=>if sg (hd q x.2) [41] = true then .inr (x.1,x.2.tail) else .inl (bad q x.2 71)
def callP (q:Int) (c:List Tk → Rs Ex) (l:List Tk):Rs Ex:=bnd (brkP q c l.tail) fun x=>.inr (eCall (hd q l).p (hd q l).t x.1,x.2)
def grpP (q:Int) (l:List Tk):Rs Md:=if (hd q l).k ≠ 1 then .inr (⟨false,false,[]⟩,l) else bnd (nmP q l.tail) fun x=>.inr (⟨(hd q l).t == wBy,(hd q l).t == wWo,x.1⟩,x.2)
def aggP (q:Int) (c:List Tk → Rs Ex) (l:List Tk):Rs Ex:=bnd (grpP q l.tail) fun x=>bnd (brkP q c x.2) fun y=>.inr (eAgg (hd q l).p (hd q l).t x.1.on x.1.ig x.1.ns y.1,y.2)
def namP (q:Int) (c:List Tk → Rs Ex) (l:List Tk):Rs Ex:=
 if (isAggB (hd q l).t && (sg (hd q l.tail) [40] || ((hd q l.tail).k == 1 && isGrpB (hd q l.tail).t))) = true then aggP q c l
 else if (isModB (hd q l).t && sg (hd q l.tail) [40]) = true then .inl (bad q l 71)
 else if sg (hd q l.tail) [40] = true then callP q c l
 else selP q l
def prmP (q:Int) (c:List Tk → Rs Ex) (l:List Tk):Rs Ex:=
 if (hd q l).k = 2 then .inr (eNum (hd q l).p (hd q l).o (hd q l).n,l.tail)
 else if (hd q l).k = 1 then namP q c l
 else if sg (hd q l) [40] = true then brkP q c l
 else if sg (hd q l) [123] = true then selP q l
 else .inl (bad q l 71)
def unP (q:Int) (n c:List Tk → Rs Ex) (l:List Tk):Rs Ex:=if sg (hd q l) [45] = false then prmP q c l else bnd (n l.tail) fun x=>.inr (eNeg (hd q l).p x.1,x.2)
def deep (q:Int) (l:List Tk):Rs Ex:=.inl (bad q l 72)
def unD (q:Int):Nat → List Tk → Rs Ex
 | 0=>unP q (deep q) (deep q)
 | d + 1=>unP q (unD q d) (cmpP q (unD q d))
def whP (q:Int) (l:List Tk):Er ⊕ Ex:=bnd (cmpP q (unD q 15) l) fun x=>if (hd q x.2).k = 0 then .inr x.1 else .inl (bad q x.2 71)
def endP (l:List Tk):Int:=(l.getLast?.map (·.p)).getD 0
def rdP (l:List Tk):Er ⊕ Ex:=whP (endP l) l
def rdE (l:List Tk):Int:=match rdP l with
 | .inl er=>er.2
 | .inr _=>0
def rdA (l:List Tk):Int:=match rdP l with
 | .inl er=>er.1
 | .inr _=>0
def rdX (l:List Tk):Ex:=match rdP l with
 | .inl _=>ex0
 | .inr e=>e
/-! ### What is left of the signs is an end of them -/
def Sf (l r:List Tk):Prop:=∃ j,r = l.drop j
end Go.Proofs.YtjlaihekocjggaaGreatDoor
namespace Go.Proofs
open Go.Shelf
def Tryz.lays144_ren:Go.Shelf.Ren:=⟨fun | 144=>207 | 143=>164 | 219=>232 | 217=>277 | 225=>278 | 224=>279 | 267=>280 | 266=>318 | 314=>319 | n=>n,fun | 9=>9 | 4=>4 | 3=>3 | 5=>5 | 46=>130 | 146=>311 | 51=>195 | n=>n,fun | 1=>0 | n=>n⟩
theorem Tryz.lays144:Go.Proofs.Lays.n144 Tryz.prog Tryz.lays144_ren:={
 mixed:=by kernel_rfl
 f143:=Tryz.func164.trans (congrArg some (by kernel_rfl))
 f144:=Tryz.func207.trans (congrArg some (by kernel_rfl))
 f217:=Tryz.func277.trans (congrArg some (by kernel_rfl))
 f219:=Tryz.func232.trans (congrArg some (by kernel_rfl))
 f224:=Tryz.func279.trans (congrArg some (by kernel_rfl))
 f225:=Tryz.func278.trans (congrArg some (by kernel_rfl))
 f266:=Tryz.func318.trans (congrArg some (by kernel_rfl))
 f267:=Tryz.func280.trans (congrArg some (by kernel_rfl))
 f314:=Tryz.func319.trans (congrArg some (by kernel_rfl))
 t3:=Tryz.underlying3
 a3:=Tryz.isAgg3
 z3:=Tryz.sizeOf3
 v3:=Tryz.zeroValue3
 t4:=Tryz.underlying4
 a4:=Tryz.isAgg4
 z4:=Tryz.sizeOf4
 v4:=Tryz.zeroValue4
 t5:=Tryz.underlying5
 a5:=Tryz.isAgg5
 z5:=Tryz.sizeOf5
 v5:=Tryz.zeroValue5
 t9:=Tryz.underlying9
 a9:=Tryz.isAgg9
 z9:=Tryz.sizeOf9
 v9:=Tryz.zeroValue9
 t46:=Tryz.underlying130
 a46:=Tryz.isAgg130
 z46:=Tryz.sizeOf130
 v46:=Tryz.zeroValue130
 t51:=Tryz.underlying195
 a51:=Tryz.isAgg195
 z51:=Tryz.sizeOf195
 v51:=Tryz.zeroValue195
 t146:=Tryz.underlying311
 a146:=Tryz.isAgg311
 z146:=Tryz.sizeOf311
 v146:=Tryz.zeroValue311
 g1:=by kernel_rfl }
open Go.RowKit Go.Lib in
theorem Tryz.strings_Contains_one (s:ByteArray) (c:UInt8) (w:World) :
  Calls Tryz.prog 207 #[.string s,.string ⟨#[c]⟩] w fun e w'=>e = .returned (.bool (decide (0 ≤ Lib.indexByte s.data.toList c))) ∧ w' = w:=Any.strings_Contains_one Tryz.lays144 s c w
def Tryz.lays110_ren:Go.Shelf.Ren:=⟨fun | 110=>263 | 109=>310 | n=>n,fun | 31=>25 | 9=>9 | 4=>4 | 3=>3 | 0=>0 | n=>n,fun | n=>n⟩
theorem Tryz.lays110:Go.Proofs.Lays.n110 Tryz.prog Tryz.lays110_ren:={
 mixed:=by kernel_rfl
 f109:=Tryz.func310.trans (congrArg some (by kernel_rfl))
 f110:=Tryz.func263.trans (congrArg some (by kernel_rfl))
 t0:=Tryz.underlying0
 a0:=Tryz.isAgg0
 z0:=Tryz.sizeOf0
 v0:=Tryz.zeroValue0
 t3:=Tryz.underlying3
 a3:=Tryz.isAgg3
 z3:=Tryz.sizeOf3
 v3:=Tryz.zeroValue3
 t4:=Tryz.underlying4
 a4:=Tryz.isAgg4
 z4:=Tryz.sizeOf4
 v4:=Tryz.zeroValue4
 t9:=Tryz.underlying9
 a9:=Tryz.isAgg9
 z9:=Tryz.sizeOf9
 v9:=Tryz.zeroValue9
 t31:=Tryz.underlying25
 a31:=Tryz.isAgg25
 z31:=Tryz.sizeOf25
 v31:=Tryz.zeroValue25 }
open Go.Lib in
theorem Tryz.slices_Contains_string (b off n c:Nat) (zs:List ByteArray) (x:ByteArray) (w:World) (hz:n ≤ zs.length) (hbig:n ≤ 9223372036854775807) (hc:∀ j,j < zs.length → w.cell? ⟨b,off + j,none⟩ = some (.string (zs.getD j ByteArray.empty))) :
  Calls Tryz.prog 263 #[.slice (some ⟨b,off,none⟩) n c,.string x] w fun e w'=>e = .returned (.bool (Lib.containsS (zs.take n) x)) ∧ w' = w:=Any.slices_Contains_string Tryz.lays110 b off n c zs x w hz hbig hc
open Go.Lib in
theorem Tryz.slices_Contains_string_empty (a:Option Addr) (c:Nat) (x:ByteArray) (w:World) :
  Calls Tryz.prog 263 #[.slice a 0 c,.string x] w fun e w'=>e = .returned (.bool false) ∧ w' = w:=Any.slices_Contains_string_empty Tryz.lays110 a c x w
end Go.Proofs
namespace Go.Proofs.YtjlaihekocjggaaGreatDoor
open Go.RowKit
theorem mk_inj {a b:Str} (h:(⟨a.toArray⟩:ByteArray) = ⟨b.toArray⟩):a = b:=by
 have:=congrArg (fun x:ByteArray=>x.data.toList) h
 simpa using this
theorem zkg (l:List Str) (x:Str):Lib.containsS (l.map fun s=>(⟨s.toArray⟩:ByteArray)) ⟨x.toArray⟩ = l.contains x:=by
 rw [Bool.eq_iff_iff,Lib.containsS_iff,List.contains_iff_mem]
 constructor
 ·
  intro h
  obtain ⟨a,ha,e⟩:=List.mem_map.1 h
  rw [← mk_inj e]
  exact ha
 intro h
 exact List.mem_map.2 ⟨x,h,rfl⟩
theorem in_any (ao:Option Addr) (n c:Nat) (l:List Str) (x:Str) (w:World) (hn:n ≤ 9223372036854775807) (h:Ss w ao n l) :
  Calls Tryz.prog 263 #[.slice ao n c,tx x] w fun e w'=>e = .returned (.bool (l.contains x)) ∧ w = w':=by
 by_cases h0:n = 0
 ·
  subst h0
  obtain rfl:l = []:=List.length_eq_zero_iff.1 h.1
  refine (Tryz.slices_Contains_string_empty ao c ⟨x.toArray⟩ w).mono ?_
  rintro e w' ⟨rfl,rfl⟩
  exact ⟨rfl,rfl⟩
 obtain ⟨hl,h4⟩:=h
 obtain ⟨b,off,rfl,hc⟩:=h4 (by omega)
 refine (Tryz.slices_Contains_string b off n c (l.map fun s=>(⟨s.toArray⟩:ByteArray)) ⟨x.toArray⟩ w (by simp [hl]) hn (fun j hj=>?_)).mono ?_
 ·
  have hj':j < l.length:=by simpa using hj
  rw [hc j (by omega)]
  simp [List.getD,List.getElem?_eq_getElem hj']
 rintro e w' ⟨rfl,rfl⟩
 refine ⟨?_,rfl⟩
 rw [List.take_of_length_le (by simp [hl]),zkg]
theorem byte_in (l:Str) (c:UInt8):decide (0 ≤ Lib.indexByte l c) = l.contains c:=by
 induction l with
 | nil=>rfl
 | cons x l ih=>
  rw [Lib.indexByte,List.contains_cons]
  by_cases h:x = c
  ·
   subst h;simp
  have h':¬ c = x:=fun e=>h e.symm
  have hge:-1 ≤ Lib.indexByte l c:=by
   clear ih
   induction l with
   | nil=>simp [Lib.indexByte]
   | cons y l ih=>
    rw [Lib.indexByte]
    split
    ·
     omega
    split <;> omega
  rw [← ih]
  by_cases h2:Lib.indexByte l c = -1
  ·
   simp [h,h',h2]
  have h3:(Lib.indexByte l c == -1) = false:=by simpa using h2
  have h4:(x == c) = false:=by simpa using h
  have h5:(c == x) = false:=by simpa using h'
  rw [h3,h4,h5,if_neg (by simp),if_neg (by simp),Bool.false_or,decide_eq_decide]
  omega
theorem zdj (s:Str) (w:World):Calls Tryz.prog 207 #[tx s,.string ⟨#[10]⟩] w fun e w'=>e = .returned (.bool (s.contains 10)) ∧ w = w':=by
 refine (Tryz.strings_Contains_one ⟨s.toArray⟩ 10 w).mono ?_
 rintro e w' ⟨rfl,rfl⟩
 exact ⟨by rw [← byte_in],rfl⟩
abbrev av (m:Mt):Value:=.agg #[tx m.name,.int .i64 m.kind,tx m.text]
def Big (s:Str):Prop:=s.length ≤ 9223372036854775807
def fKind (k:Int):Bool:=decide (1 ≤ k) && decide (k ≤ 4)
def fMat (m:Mt):Bool:=fName m.name && fKind m.kind && decide (m.text.length ≤ 30) && !m.text.contains 10
theorem zop (k:Int) (w:World):Calls Tryz.prog 206 #[.int .i64 k] w fun e w'=>e = .returned (.bool (fKind k)) ∧ w = w':=by
 unfold fKind
 go_enter Tryz.func206,Tryz.ntmps206
 go_wp2
 all_goals
  go_ret
  exact ⟨zdl (by rw [Bool.eq_iff_iff];simp;omega),rfl⟩
theorem isM_any (m:Mt) (w:World) (hn:Big m.name) :
  Calls Tryz.prog 129 #[av m] w fun e w'=>e = .returned (.bool (fMat m)) ∧ Below w.heap.size w w':=by
 have hnm:=fun W=>zbx m.name W (by unfold Big at hn;omega)
 have hkd:=zop m.kind
 have hct:=zdj m.text
 have hb0:∀ o,Below w.heap.size w (w.alloc o):=bal (Below.refl _ _)
 unfold fMat
 obtain ⟨n,k,t⟩:=m
 dsimp only at *
 clear hn
 generalize fName n = a at *
 generalize fKind k = b at *
 generalize t.contains 10 = c at *
 cases a with
 | false=>
  go_enter Tryz.func129,Tryz.ntmps129
  go_wp2_with (go_at_call 150;refine (hnm _).mono ?_;rintro e w' ⟨rfl,rfl⟩)
  go_ret
  exact ⟨by simp,hb0 _⟩
 | true=>
  cases b with
  | false=>
   go_enter Tryz.func129,Tryz.ntmps129
   go_wp2_with (first | (go_at_call 150;refine (hnm _).mono ?_;rintro e w' ⟨rfl,rfl⟩) | (go_at_call 206;refine (hkd _).mono ?_;rintro e w' ⟨rfl,rfl⟩))
   go_ret
   exact ⟨by simp,hb0 _⟩
  | true=>
   by_cases hl:t.length ≤ 30
   ·
    have hl':(t.length:Int) ≤ 30:=by omega
    cases c <;> (
     go_enter Tryz.func129,Tryz.ntmps129
     go_wp2_with (first | (go_at_call 150;refine (hnm _).mono ?_;rintro e w' ⟨rfl,rfl⟩) | (go_at_call 206;refine (hkd _).mono ?_;rintro e w' ⟨rfl,rfl⟩) | (go_at_call 207;refine (hct _).mono ?_;rintro e w' ⟨rfl,rfl⟩))
     go_ret
     exact ⟨by simp [hl],hb0 _⟩)
   have hl':¬ (t.length:Int) ≤ 30:=by omega
   go_enter Tryz.func129,Tryz.ntmps129
   go_wp2_with (first | (go_at_call 150;refine (hnm _).mono ?_;rintro e w' ⟨rfl,rfl⟩) | (go_at_call 206;refine (hkd _).mono ?_;rintro e w' ⟨rfl,rfl⟩))
   go_ret
   exact ⟨by simp,hb0 _⟩
end Go.Proofs.YtjlaihekocjggaaGreatDoor
namespace Go.Proofs
open Go.Shelf
def Tryz.x_lays161_ren:Go.Shelf.Ren:=⟨fun | 161=>194 | 231=>254 | 227=>215 | 233=>255 | 235=>256 | 228=>269 | 197=>230 | 151=>271 | 260=>276 | 152=>316 | 137=>365 | 119=>366 | 224=>279 | 225=>278 | 217=>277 | 266=>318 | n=>n,fun | 9=>9 | 4=>4 | 3=>3 | 5=>5 | 117=>239 | 116=>238 | 0=>0 | 124=>242 | 105=>251 | 21=>21 | 119=>307 | 46=>130 | 139=>310 | 138=>309 | n=>n,fun | 3=>2 | 4=>3 | n=>n⟩
theorem Tryz.x_lays161:Go.Proofs.Lays.n161 Tryz.prog Tryz.x_lays161_ren:={
 mixed:=by kernel_rfl
 f119:=Tryz.func366.trans (congrArg some (by kernel_rfl))
 f137:=Tryz.func365.trans (congrArg some (by kernel_rfl))
 f151:=Tryz.func271.trans (congrArg some (by kernel_rfl))
 f152:=Tryz.func316.trans (congrArg some (by kernel_rfl))
 f161:=Tryz.func194.trans (congrArg some (by kernel_rfl))
 f197:=Tryz.func230.trans (congrArg some (by kernel_rfl))
 f217:=Tryz.func277.trans (congrArg some (by kernel_rfl))
 f224:=Tryz.func279.trans (congrArg some (by kernel_rfl))
 f225:=Tryz.func278.trans (congrArg some (by kernel_rfl))
 f227:=Tryz.func215.trans (congrArg some (by kernel_rfl))
 f228:=Tryz.func269.trans (congrArg some (by kernel_rfl))
 f231:=Tryz.func254.trans (congrArg some (by kernel_rfl))
 f233:=Tryz.func255.trans (congrArg some (by kernel_rfl))
 f235:=Tryz.func256.trans (congrArg some (by kernel_rfl))
 f260:=Tryz.func276.trans (congrArg some (by kernel_rfl))
 f266:=Tryz.func318.trans (congrArg some (by kernel_rfl))
 t0:=Tryz.underlying0
 a0:=Tryz.isAgg0
 z0:=Tryz.sizeOf0
 v0:=Tryz.zeroValue0
 t3:=Tryz.underlying3
 a3:=Tryz.isAgg3
 z3:=Tryz.sizeOf3
 v3:=Tryz.zeroValue3
 t4:=Tryz.underlying4
 a4:=Tryz.isAgg4
 z4:=Tryz.sizeOf4
 v4:=Tryz.zeroValue4
 t5:=Tryz.underlying5
 a5:=Tryz.isAgg5
 z5:=Tryz.sizeOf5
 v5:=Tryz.zeroValue5
 t9:=Tryz.underlying9
 a9:=Tryz.isAgg9
 z9:=Tryz.sizeOf9
 v9:=Tryz.zeroValue9
 t21:=Tryz.underlying21
 a21:=Tryz.isAgg21
 z21:=Tryz.sizeOf21
 v21:=Tryz.zeroValue21
 t46:=Tryz.underlying130
 a46:=Tryz.isAgg130
 z46:=Tryz.sizeOf130
 v46:=Tryz.zeroValue130
 t105:=Tryz.underlying251
 a105:=Tryz.isAgg251
 z105:=Tryz.sizeOf251
 v105:=Tryz.zeroValue251
 t116:=Tryz.underlying238
 a116:=Tryz.isAgg238
 z116:=Tryz.sizeOf238
 t117:=Tryz.underlying239
 a117:=Tryz.isAgg239
 z117:=Tryz.sizeOf239
 v117:=Tryz.zeroValue239
 t119:=Tryz.underlying307
 a119:=Tryz.isAgg307
 z119:=Tryz.sizeOf307
 t124:=Tryz.underlying242
 a124:=Tryz.isAgg242
 z124:=Tryz.sizeOf242
 v124:=Tryz.zeroValue242
 t138:=Tryz.underlying309
 a138:=Tryz.isAgg309
 z138:=Tryz.sizeOf309
 v138:=Tryz.zeroValue309
 t139:=Tryz.underlying310
 a139:=Tryz.isAgg310
 z139:=Tryz.sizeOf310
 v139:=Tryz.zeroValue310
 g3:=by kernel_rfl
 g4:=by kernel_rfl }
def Tryz.x_laysM171_ren:Go.Shelf.Ren:=⟨fun | 171=>252 | 243=>302 | 246=>349 | 283=>265 | 284=>266 | 285=>267 | 286=>268 | 129=>161 | 317=>311 | 318=>312 | 319=>313 | 320=>314 | 337=>363 | 338=>364 | n=>n,fun | 3=>3 | 9=>9 | 2=>2 | 4=>4 | 171=>268 | 0=>0 | 53=>51 | 37=>55 | 5=>5 | 173=>270 | 212=>303 | 51=>195 | 20=>20 | 213=>304 | 46=>130 | 232=>389 | 233=>390 | n=>n,fun | 17=>1 | 18=>7 | 19=>8 | n=>n⟩
theorem Tryz.x_laysM171:Go.Proofs.LaysM.n171 Tryz.prog Tryz.x_laysM171_ren:={
 mixed:=by kernel_rfl
 f129:=Tryz.func161.trans (congrArg some (by kernel_rfl))
 f171:=Tryz.func252.trans (congrArg some (by kernel_rfl))
 f243:=Tryz.func302.trans (congrArg some (by kernel_rfl))
 f246:=Tryz.func349.trans (congrArg some (by kernel_rfl))
 f283:=Tryz.func265.trans (congrArg some (by kernel_rfl))
 f284:=Tryz.func266.trans (congrArg some (by kernel_rfl))
 f285:=Tryz.func267.trans (congrArg some (by kernel_rfl))
 f286:=Tryz.func268.trans (congrArg some (by kernel_rfl))
 f317:=Tryz.func311.trans (congrArg some (by kernel_rfl))
 f318:=Tryz.func312.trans (congrArg some (by kernel_rfl))
 f319:=Tryz.func313.trans (congrArg some (by kernel_rfl))
 f320:=Tryz.func314.trans (congrArg some (by kernel_rfl))
 f337:=Tryz.func363.trans (congrArg some (by kernel_rfl))
 f338:=Tryz.func364.trans (congrArg some (by kernel_rfl))
 t0:=Tryz.underlying0
 a0:=Tryz.isAgg0
 z0:=Tryz.sizeOf0
 v0:=Tryz.zeroValue0
 t2:=Tryz.underlying2
 a2:=Tryz.isAgg2
 z2:=Tryz.sizeOf2
 v2:=Tryz.zeroValue2
 t3:=Tryz.underlying3
 a3:=Tryz.isAgg3
 z3:=Tryz.sizeOf3
 v3:=Tryz.zeroValue3
 t4:=Tryz.underlying4
 a4:=Tryz.isAgg4
 z4:=Tryz.sizeOf4
 v4:=Tryz.zeroValue4
 t5:=Tryz.underlying5
 a5:=Tryz.isAgg5
 z5:=Tryz.sizeOf5
 v5:=Tryz.zeroValue5
 t9:=Tryz.underlying9
 a9:=Tryz.isAgg9
 z9:=Tryz.sizeOf9
 v9:=Tryz.zeroValue9
 t20:=Tryz.underlying20
 a20:=Tryz.isAgg20
 z20:=Tryz.sizeOf20
 v20:=Tryz.zeroValue20
 t37:=Tryz.underlying55
 a37:=Tryz.isAgg55
 z37:=Tryz.sizeOf55
 v37:=Tryz.zeroValue55
 t46:=Tryz.underlying130
 a46:=Tryz.isAgg130
 z46:=Tryz.sizeOf130
 v46:=Tryz.zeroValue130
 t51:=Tryz.underlying195
 a51:=Tryz.isAgg195
 z51:=Tryz.sizeOf195
 v51:=Tryz.zeroValue195
 t53:=Tryz.underlying51
 a53:=Tryz.isAgg51
 z53:=Tryz.sizeOf51
 v53:=Tryz.zeroValue51
 t171:=Tryz.underlying268
 a171:=Tryz.isAgg268
 z171:=Tryz.sizeOf268
 v171:=Tryz.zeroValue268
 t173:=Tryz.underlying270
 a173:=Tryz.isAgg270
 z173:=Tryz.sizeOf270
 v173:=Tryz.zeroValue270
 t212:=Tryz.underlying303
 a212:=Tryz.isAgg303
 z212:=Tryz.sizeOf303
 v212:=Tryz.zeroValue303
 t213:=Tryz.underlying304
 a213:=Tryz.isAgg304
 z213:=Tryz.sizeOf304
 t232:=Tryz.underlying389
 a232:=Tryz.isAgg389
 z232:=Tryz.sizeOf389
 v232:=Tryz.zeroValue389
 t233:=Tryz.underlying390
 a233:=Tryz.isAgg390
 z233:=Tryz.sizeOf390
 v233:=Tryz.zeroValue390
 g17:=by kernel_rfl
 g18:=by kernel_rfl
 g19:=by kernel_rfl
 i0:=by kernel_rfl
 i2:=by kernel_rfl
 i3:=by kernel_rfl
 i4:=by kernel_rfl
 i5:=by kernel_rfl
 i9:=by kernel_rfl
 i20:=by kernel_rfl
 i37:=by kernel_rfl
 i46:=by kernel_rfl
 i51:=by kernel_rfl
 i53:=by kernel_rfl
 i171:=by kernel_rfl
 i173:=by kernel_rfl
 i212:=by kernel_rfl
 i232:=by kernel_rfl
 i233:=by kernel_rfl
 m17:=by kernel_rfl
 m18:=by kernel_rfl
 m19:=by kernel_rfl }
open Go.RowKit Go.Sort Go.Lib in
theorem Tryz.x_strconv_Itoa (n : Int) (h0 : -9223372036854775808 ≤ n) (h1 : n ≤ 9223372036854775807) (w : World) (htab : Lib.TabIs Tryz.prog w "internal/strconv.uint64pow10" .u64 Lib.pow10Tab) :
  Calls Tryz.prog 252 #[.int .i64 n] w fun e w'=>e = .returned (.string ⟨(Lib.itoa n).toArray⟩) ∧ ∃ k os,w' = grow (w.drewN k) os:=Any.strconv_Itoa Tryz.x_laysM171 n h0 h1 w htab
def Tryz.x_laysC172_ren:Go.Shelf.Ren:=⟨fun | 172=>234 | 244=>282 | 245=>283 | 247=>320 | 279=>321 | 280=>322 | 281=>323 | 282=>324 | 287=>367 | 316=>368 | 171=>252 | 205=>369 | 321=>392 | 322=>393 | 243=>302 | 246=>349 | 283=>265 | 284=>266 | 285=>267 | 286=>268 | 129=>161 | 317=>311 | 318=>312 | 319=>313 | 320=>314 | 337=>363 | 338=>364 | n=>n,fun | 9=>9 | 3=>3 | 75=>106 | 76=>107 | 4=>4 | 5=>5 | 167=>313 | 37=>55 | 0=>0 | 85=>314 | 2=>2 | 168=>316 | 53=>51 | 175=>363 | 46=>130 | 210=>366 | 127=>154 | 145=>394 | 143=>392 | 21=>21 | 171=>268 | 173=>270 | 212=>303 | 51=>195 | 20=>20 | 213=>304 | 232=>389 | 233=>390 | 80=>109 | n=>n,fun | 15=>5 | 16=>6 | 17=>1 | 18=>7 | 19=>8 | n=>n⟩
theorem Tryz.x_laysC172:Go.Proofs.LaysC.n172 Tryz.prog Tryz.x_laysC172_ren:={
 mixed:=by kernel_rfl
 f129:=Tryz.func161.trans (congrArg some (by kernel_rfl))
 f171:=Tryz.func252.trans (congrArg some (by kernel_rfl))
 f172:=Tryz.func234.trans (congrArg some (by kernel_rfl))
 f205:=Tryz.func369.trans (congrArg some (by kernel_rfl))
 f243:=Tryz.func302.trans (congrArg some (by kernel_rfl))
 f244:=Tryz.func282.trans (congrArg some (by kernel_rfl))
 f245:=Tryz.func283.trans (congrArg some (by kernel_rfl))
 f246:=Tryz.func349.trans (congrArg some (by kernel_rfl))
 f247:=Tryz.func320.trans (congrArg some (by kernel_rfl))
 f279:=Tryz.func321.trans (congrArg some (by kernel_rfl))
 f280:=Tryz.func322.trans (congrArg some (by kernel_rfl))
 f281:=Tryz.func323.trans (congrArg some (by kernel_rfl))
 f282:=Tryz.func324.trans (congrArg some (by kernel_rfl))
 f283:=Tryz.func265.trans (congrArg some (by kernel_rfl))
 f284:=Tryz.func266.trans (congrArg some (by kernel_rfl))
 f285:=Tryz.func267.trans (congrArg some (by kernel_rfl))
 f286:=Tryz.func268.trans (congrArg some (by kernel_rfl))
 f287:=Tryz.func367.trans (congrArg some (by kernel_rfl))
 f316:=Tryz.func368.trans (congrArg some (by kernel_rfl))
 f317:=Tryz.func311.trans (congrArg some (by kernel_rfl))
 f318:=Tryz.func312.trans (congrArg some (by kernel_rfl))
 f319:=Tryz.func313.trans (congrArg some (by kernel_rfl))
 f320:=Tryz.func314.trans (congrArg some (by kernel_rfl))
 f321:=Tryz.func392.trans (congrArg some (by kernel_rfl))
 f322:=Tryz.func393.trans (congrArg some (by kernel_rfl))
 f337:=Tryz.func363.trans (congrArg some (by kernel_rfl))
 f338:=Tryz.func364.trans (congrArg some (by kernel_rfl))
 t0:=Tryz.underlying0
 a0:=Tryz.isAgg0
 z0:=Tryz.sizeOf0
 v0:=Tryz.zeroValue0
 t2:=Tryz.underlying2
 a2:=Tryz.isAgg2
 z2:=Tryz.sizeOf2
 v2:=Tryz.zeroValue2
 t3:=Tryz.underlying3
 a3:=Tryz.isAgg3
 z3:=Tryz.sizeOf3
 v3:=Tryz.zeroValue3
 t4:=Tryz.underlying4
 a4:=Tryz.isAgg4
 z4:=Tryz.sizeOf4
 v4:=Tryz.zeroValue4
 t5:=Tryz.underlying5
 a5:=Tryz.isAgg5
 z5:=Tryz.sizeOf5
 v5:=Tryz.zeroValue5
 t9:=Tryz.underlying9
 a9:=Tryz.isAgg9
 z9:=Tryz.sizeOf9
 v9:=Tryz.zeroValue9
 t20:=Tryz.underlying20
 a20:=Tryz.isAgg20
 z20:=Tryz.sizeOf20
 v20:=Tryz.zeroValue20
 t21:=Tryz.underlying21
 a21:=Tryz.isAgg21
 z21:=Tryz.sizeOf21
 v21:=Tryz.zeroValue21
 t37:=Tryz.underlying55
 a37:=Tryz.isAgg55
 z37:=Tryz.sizeOf55
 v37:=Tryz.zeroValue55
 t46:=Tryz.underlying130
 a46:=Tryz.isAgg130
 z46:=Tryz.sizeOf130
 v46:=Tryz.zeroValue130
 t51:=Tryz.underlying195
 a51:=Tryz.isAgg195
 z51:=Tryz.sizeOf195
 v51:=Tryz.zeroValue195
 t53:=Tryz.underlying51
 a53:=Tryz.isAgg51
 z53:=Tryz.sizeOf51
 v53:=Tryz.zeroValue51
 t75:=Tryz.underlying106
 a75:=Tryz.isAgg106
 z75:=Tryz.sizeOf106
 v75:=Tryz.zeroValue106
 t76:=Tryz.underlying107
 a76:=Tryz.isAgg107
 z76:=Tryz.sizeOf107
 v76:=Tryz.zeroValue107
 t85:=Tryz.underlying314
 a85:=Tryz.isAgg314
 z85:=Tryz.sizeOf314
 v85:=Tryz.zeroValue314
 t127:=Tryz.underlying154
 a127:=Tryz.isAgg154
 z127:=Tryz.sizeOf154
 v127:=Tryz.zeroValue154
 t143:=Tryz.underlying392
 a143:=Tryz.isAgg392
 z143:=Tryz.sizeOf392
 v143:=Tryz.zeroValue392
 t145:=Tryz.underlying394
 a145:=Tryz.isAgg394
 z145:=Tryz.sizeOf394
 v145:=Tryz.zeroValue394
 t167:=Tryz.underlying313
 a167:=Tryz.isAgg313
 z167:=Tryz.sizeOf313
 v167:=Tryz.zeroValue313
 t168:=Tryz.underlying316
 a168:=Tryz.isAgg316
 z168:=Tryz.sizeOf316
 v168:=Tryz.zeroValue316
 t171:=Tryz.underlying268
 a171:=Tryz.isAgg268
 z171:=Tryz.sizeOf268
 v171:=Tryz.zeroValue268
 t173:=Tryz.underlying270
 a173:=Tryz.isAgg270
 z173:=Tryz.sizeOf270
 v173:=Tryz.zeroValue270
 t175:=Tryz.underlying363
 a175:=Tryz.isAgg363
 z175:=Tryz.sizeOf363
 v175:=Tryz.zeroValue363
 t210:=Tryz.underlying366
 a210:=Tryz.isAgg366
 z210:=Tryz.sizeOf366
 v210:=Tryz.zeroValue366
 t212:=Tryz.underlying303
 a212:=Tryz.isAgg303
 z212:=Tryz.sizeOf303
 v212:=Tryz.zeroValue303
 t213:=Tryz.underlying304
 a213:=Tryz.isAgg304
 z213:=Tryz.sizeOf304
 t232:=Tryz.underlying389
 a232:=Tryz.isAgg389
 z232:=Tryz.sizeOf389
 v232:=Tryz.zeroValue389
 t233:=Tryz.underlying390
 a233:=Tryz.isAgg390
 z233:=Tryz.sizeOf390
 v233:=Tryz.zeroValue390
 g15:=by kernel_rfl
 g16:=by kernel_rfl
 g17:=by kernel_rfl
 g18:=by kernel_rfl
 g19:=by kernel_rfl
 t80:=Tryz.underlying109
 a80:=Tryz.isAgg109
 z80:=Tryz.sizeOf109
 v80:=Tryz.zeroValue109
 i0:=by kernel_rfl
 i2:=by kernel_rfl
 i3:=by kernel_rfl
 i4:=by kernel_rfl
 i5:=by kernel_rfl
 i9:=by kernel_rfl
 i20:=by kernel_rfl
 i21:=by kernel_rfl
 i37:=by kernel_rfl
 i46:=by kernel_rfl
 i51:=by kernel_rfl
 i53:=by kernel_rfl
 i75:=by kernel_rfl
 i76:=by kernel_rfl
 i80:=by kernel_rfl
 i85:=by kernel_rfl
 i127:=by kernel_rfl
 i143:=by kernel_rfl
 i145:=by kernel_rfl
 i167:=by kernel_rfl
 i168:=by kernel_rfl
 i171:=by kernel_rfl
 i173:=by kernel_rfl
 i175:=by kernel_rfl
 i210:=by kernel_rfl
 i212:=by kernel_rfl
 i232:=by kernel_rfl
 i233:=by kernel_rfl
 m15:=by kernel_rfl
 m16:=by kernel_rfl
 m17:=by kernel_rfl
 m18:=by kernel_rfl
 m19:=by kernel_rfl
 c0:=by kernel_rfl
 c2:=by kernel_rfl
 c3:=by kernel_rfl
 c4:=by kernel_rfl
 c5:=by kernel_rfl
 c9:=by kernel_rfl
 c20:=by kernel_rfl
 c21:=by kernel_rfl
 c37:=by kernel_rfl
 c46:=by kernel_rfl
 c51:=by kernel_rfl
 c53:=by kernel_rfl
 c75:=by kernel_rfl
 c76:=by kernel_rfl
 c80:=by kernel_rfl
 c85:=by kernel_rfl
 c127:=by kernel_rfl
 c143:=by kernel_rfl
 c145:=by kernel_rfl
 c167:=by kernel_rfl
 c168:=by kernel_rfl
 c171:=by kernel_rfl
 c173:=by kernel_rfl
 c175:=by kernel_rfl
 c210:=by kernel_rfl
 c212:=by kernel_rfl
 c213:=by kernel_rfl
 c232:=by kernel_rfl
 c233:=by kernel_rfl }
open Go.RowKit in
theorem Tryz.x_strconv_Atoi_ok (s:ByteArray) (hmax:s.size ≤ 9223372036854775806) (v:Int) (h:Lib.atoiAll s.data.toList = .ok v) (w:World) :
  Calls Tryz.prog 234 #[.string s] w fun e w'=>e = .returned (.tuple #[.int .i64 v,.nilIface]) ∧ (w' = w ∨ ∃ t,w' = Lib.bytesWorld w 5 t):=Any.strconv_Atoi_ok Tryz.x_laysC172 s hmax v h w
open Go.RowKit in
theorem Tryz.x_strconv_Atoi_syntax (s:ByteArray) (hlim:s.size ≤ 281474976710656) (h:Lib.atoiAll s.data.toList = .«syntax») (ev:Value) (w:World) (hv:w.cell? ⟨5,0,none⟩ = some ev) (hev:ev = .nilIface ∨ ∃ te pe,ev = .iface te pe) :
  Calls Tryz.prog 234 #[.string s] w fun e w'=>∃ N,e = .returned (.tuple #[.int .i64 (0),.iface 316 (.pointer (some ⟨N,0,none⟩))]) ∧ w.heap.size ≤ N ∧ w'.heap[N]? = some (.cells #[.string ⟨#[65,116,111,105]⟩,.string s,ev] 366 (0,0)) ∧ Below w.heap.size w w':=Any.strconv_Atoi_syntax Tryz.x_laysC172 s hlim h ev w hv hev
open Go.RowKit in
theorem Tryz.x_strconv_Atoi_range (s:ByteArray) (hlim:s.size ≤ 281474976710656) (h:Lib.atoiAll s.data.toList = .range) (ev:Value) (w:World) (hv:w.cell? ⟨6,0,none⟩ = some ev) (hev:ev = .nilIface ∨ ∃ te pe,ev = .iface te pe) :
  Calls Tryz.prog 234 #[.string s] w fun e w'=>∃ N,e = .returned (.tuple #[.int .i64 (Lib.atoiSat s.data.toList),.iface 316 (.pointer (some ⟨N,0,none⟩))]) ∧ w.heap.size ≤ N ∧ w'.heap[N]? = some (.cells #[.string ⟨#[65,116,111,105]⟩,.string s,ev] 366 (0,0)) ∧ Below w.heap.size w w':=Any.strconv_Atoi_range Tryz.x_laysC172 s hlim h ev w hv hev
def Tryz.x_lays99_ren:Go.Shelf.Ren:=⟨fun | 99=>237 | 206=>284 | n=>n,fun | 9=>9 | 4=>4 | 3=>3 | n=>n,fun | n=>n⟩
theorem Tryz.x_lays99:Go.Proofs.Lays.n99 Tryz.prog Tryz.x_lays99_ren:={
 mixed:=by kernel_rfl
 f99:=Tryz.func237.trans (congrArg some (by kernel_rfl))
 f206:=Tryz.func284.trans (congrArg some (by kernel_rfl))
 t3:=Tryz.underlying3
 a3:=Tryz.isAgg3
 z3:=Tryz.sizeOf3
 v3:=Tryz.zeroValue3
 t4:=Tryz.underlying4
 a4:=Tryz.isAgg4
 z4:=Tryz.sizeOf4
 v4:=Tryz.zeroValue4
 t9:=Tryz.underlying9
 a9:=Tryz.isAgg9
 z9:=Tryz.sizeOf9
 v9:=Tryz.zeroValue9 }
open Go.RowKit Go.Lib in
theorem Tryz.x_strings_HasPrefix (s p:ByteArray) (w:World) :
  Calls Tryz.prog 237 #[.string s,.string p] w fun e w'=>e = .returned (.bool (Lib.hasPrefix s.data.toList p.data.toList)) ∧ w' = w:=Any.strings_HasPrefix Tryz.x_lays99 s p w
def Tryz.x_lays102_ren:Go.Shelf.Ren:=⟨fun | 102=>305 | 209=>350 | 207=>385 | n=>n,fun | 9=>9 | 4=>4 | 3=>3 | n=>n,fun | n=>n⟩
theorem Tryz.x_lays102:Go.Proofs.Lays.n102 Tryz.prog Tryz.x_lays102_ren:={
 mixed:=by kernel_rfl
 f102:=Tryz.func305.trans (congrArg some (by kernel_rfl))
 f207:=Tryz.func385.trans (congrArg some (by kernel_rfl))
 f209:=Tryz.func350.trans (congrArg some (by kernel_rfl))
 t3:=Tryz.underlying3
 a3:=Tryz.isAgg3
 z3:=Tryz.sizeOf3
 v3:=Tryz.zeroValue3
 t4:=Tryz.underlying4
 a4:=Tryz.isAgg4
 z4:=Tryz.sizeOf4
 v4:=Tryz.zeroValue4
 t9:=Tryz.underlying9
 a9:=Tryz.isAgg9
 z9:=Tryz.sizeOf9
 v9:=Tryz.zeroValue9 }
open Go.RowKit Go.Lib in
theorem Tryz.x_strings_TrimSuffix (s p:ByteArray) (w:World) (hs:s.size ≤ 9223372036854775807) :
  Calls Tryz.prog 305 #[.string s,.string p] w fun e w'=>e = .returned (.string ⟨(Lib.trimSuffix s.data.toList p.data.toList).toArray⟩) ∧ w' = w:=Any.strings_TrimSuffix Tryz.x_lays102 s p w hs
open Go.RowKit in
theorem Tryz.x_strings_TrimLeft (s cutset:ByteArray) (w:World) (hcs:cutset.size < 4294967281) (hascii:∀ (j:Nat) b,cutset.data.toList[j]? = some b → b.toNat < 128) :
  Calls Tryz.prog 194 #[.string s,.string cutset] w fun e w'=>e = .returned (.string ⟨(Lib.trimLeftS s.data.toList cutset.data.toList).toArray⟩) ∧ Below w.heap.size w w':=
 Any.strings_TrimLeft_laid Tryz.x_lays161 (by kernel_rfl) s cutset w hcs hascii
end Go.Proofs
namespace Go.Proofs.YtjlaihekocjggaaGreatDoor
open Go.RowKit
theorem zgg {w w':World} (h:Below w.heap.size w w') (row:Option Nat):w.grownBy w' row:=⟨h.os,h.tape,h.output,h.size,fun k hk _=>h.block k hk⟩
theorem zcj {w w':World} {row:Option Nat} (hg:w.grownBy w' row) {b o:Nat} {v:Value} (h:w.cell? ⟨b,o,none⟩ = some v) (hne:some b ≠ row):w'.cell? ⟨b,o,none⟩ = some v:=hg.cell h hne
theorem zbt {w w':World} {row:Option Nat} (hg:w.grownBy w' row) {b o:Nat} (hb:b < w.heap.size) (h:w.frozen? ⟨b,o,none⟩ = false) (hne:some b ≠ row):w'.frozen? ⟨b,o,none⟩ = false:=
 (World.frozen?_of_block (a:=⟨b,o,none⟩) (hg.block b hb hne)).trans h
/-! ### What the library's variables hold -/
def Sent (w:World) (g:Nat):Prop:=∃ ev,w.cell? ⟨g,0,none⟩ = some ev ∧ (ev = .nilIface ∨ ∃ te pe,ev = .iface te pe)
theorem Sent.later {w w':World} {g:Nat} (h:Sent w g) (hb:Below w.heap.size w w'):Sent w' g:=by
 obtain ⟨ev,h1,h2⟩:=h
 exact ⟨ev,(hb.cell (p:=⟨g,0,none⟩) (World.block_lt_of_cell? _ _ h1)).trans h1,h2⟩
structure Ev (w:World):Prop where
 mx:Mx w
 e2:Sent w 5
 e3:Sent w 6
 tab:Fx.Tab Tryz.prog w
theorem Ev.later {w w':World} (h:Ev w) (hb:Below w.heap.size w w'):Ev w':=⟨h.mx.later hb,h.e2.later hb,h.e3.later hb,h.tab.later hb⟩
/-! ### A token in a block of its own -/
abbrev tv (x:Tk):Value:=.agg #[.int .i64 x.k,.int .i64 x.p,tx x.t,.bool x.o,.int .i64 x.n,.int .i64 x.d]
abbrev tcs (x:Tk):Array Value:=#[.int .i64 x.k,.int .i64 x.p,tx x.t,.bool x.o,.int .i64 x.n,.int .i64 x.d]
structure BoxT (w:World) (b:Nat) (x:Tk):Prop where
 c0:w.cell? ⟨b,0,none⟩ = some (.int .i64 x.k)
 c1:w.cell? ⟨b,1,none⟩ = some (.int .i64 x.p)
 c2:w.cell? ⟨b,2,none⟩ = some (tx x.t)
 c3:w.cell? ⟨b,3,none⟩ = some (.bool x.o)
 c4:w.cell? ⟨b,4,none⟩ = some (.int .i64 x.n)
 c5:w.cell? ⟨b,5,none⟩ = some (.int .i64 x.d)
 f0:w.frozen? ⟨b,0,none⟩ = false
 f1:w.frozen? ⟨b,1,none⟩ = false
 f2:w.frozen? ⟨b,2,none⟩ = false
 f3:w.frozen? ⟨b,3,none⟩ = false
 f4:w.frozen? ⟨b,4,none⟩ = false
 f5:w.frozen? ⟨b,5,none⟩ = false
theorem BoxT.new (w:World) (x:Tk):BoxT (w.alloc (.cells (tcs x) 161)) w.heap.size x:=by
 constructor <;> simp [go_sem]
theorem BoxT.new0 (w:World):BoxT (w.alloc (.cells #[.int .i64 0,.int .i64 0,.string ⟨#[]⟩,.bool false,.int .i64 0,.int .i64 0] 161)) w.heap.size tk0:=by
 constructor <;> simp [go_sem,tk0]
theorem BoxT.kept {w w':World} {row:Option Nat} {b:Nat} {x:Tk} (h:BoxT w b x) (hg:w.grownBy w' row) (hne:some b ≠ row):BoxT w' b x:=by
 have hl:b < w.heap.size:=World.block_lt_of_cell? _ _ h.c0
 exact ⟨zcj hg h.c0 hne,zcj hg h.c1 hne,zcj hg h.c2 hne,zcj hg h.c3 hne,zcj hg h.c4 hne,zcj hg h.c5 hne,zbt hg hl h.f0 hne,zbt hg hl h.f1 hne,zbt hg hl h.f2 hne,zbt hg hl h.f3 hne,zbt hg hl h.f4 hne,zbt hg hl h.f5 hne⟩
theorem BoxT.later {w w':World} {b:Nat} {x:Tk} (h:BoxT w b x) (hb:Below w.heap.size w w'):BoxT w' b x:=h.kept (zgg hb none) (by simp)
theorem BoxT.lt {w:World} {b:Nat} {x:Tk} (h:BoxT w b x):b < w.heap.size:=World.block_lt_of_cell? _ _ h.c0
abbrev set6 (w:World) (b:Nat) (v0 v1 v2 v3 v4 v5:Value):World:=(((((w.setCell ⟨b,0,none⟩ v0).setCell ⟨b,1,none⟩ v1).setCell ⟨b,2,none⟩ v2).setCell ⟨b,3,none⟩ v3).setCell ⟨b,4,none⟩ v4).setCell ⟨b,5,none⟩ v5
theorem zbu {a w:World} {b:Nat} (h:Below a.heap.size a w) (hb:a.heap.size ≤ b) (v0 v1 v2 v3 v4 v5:Value):Below a.heap.size a (set6 w b v0 v1 v2 v3 v4 v5):=
 (((((h.setCell (p:=⟨b,0,none⟩) hb v0).setCell (p:=⟨b,1,none⟩) hb v1).setCell (p:=⟨b,2,none⟩) hb v2).setCell (p:=⟨b,3,none⟩) hb v3).setCell (p:=⟨b,4,none⟩) hb v4).setCell (p:=⟨b,5,none⟩) hb v5
/-! ### Slices of tokens -/
def six (x:Tk):List Value:=[.int .i64 x.k,.int .i64 x.p,tx x.t,.bool x.o,.int .i64 x.n,.int .i64 x.d]
def cellsT (l:List Tk):List Value:=l.flatMap six
theorem zim (l m:List Tk):cellsT (l ++ m) = cellsT l ++ cellsT m:=by simp [cellsT]
theorem zhk (l:List Tk):∀ u ∈ cellsT l,u.oneCell' = true:=by
 intro u hu
 obtain ⟨x,_,hx⟩:=List.mem_flatMap.1 hu
 unfold six at hx
 simp only [List.mem_cons,List.not_mem_nil,or_false] at hx
 rcases hx with rfl | rfl | rfl | rfl | rfl | rfl <;> rfl
theorem six_at (x:Tk):(six x)[0]? = some (.int .i64 x.k) ∧ (six x)[1]? = some (.int .i64 x.p) ∧ (six x)[2]? = some (tx x.t) ∧ (six x)[3]? = some (.bool x.o) ∧ (six x)[4]? = some (.int .i64 x.n) ∧ (six x)[5]? = some (.int .i64 x.d):=⟨rfl,rfl,rfl,rfl,rfl,rfl⟩
theorem zkh:∀ (l:List Tk) (j i:Nat),j < l.length → i < 6 → (cellsT l)[j * 6 + i]? = (six (l.getD j tk0))[i]?
 | [],j,i,h,_=>by simp at h
 | x :: l,0,i,_,hi=>by
  show (six x ++ cellsT l)[0 * 6 + i]? = _
  rw [List.getElem?_append_left (by show 0 * 6 + i < 6;omega),Nat.zero_mul,Nat.zero_add]
  rfl
 | x :: l,j + 1,i,h,hi=>by
  show (six x ++ cellsT l)[(j + 1) * 6 + i]? = _
  rw [List.getElem?_append_right (by show 6 ≤ _;omega)]
  have e:(j + 1) * 6 + i - (six x).length = j * 6 + i:=by show _ - 6 = _;omega
  rw [e,zkh l j i (by simpa using h) hi]
  rfl
def OwnT (w:World) (base:Nat) (v:Value) (l:List Tk):Prop:=w.ownsRow base 161 6 v l.length (cellsT l)
theorem info36:(Tryz.prog.info? 161).map (fun i=>(i.zero,i.size,i.bytes)) = some (some (.agg #[.int .i64 0,.int .i64 0,.string ⟨#[]⟩,.bool false,.int .i64 0,.int .i64 0]),6,56):=by kernel_rfl
theorem zjw:∃ i,Tryz.prog.info? 161 = some i ∧ i.zero = some (.agg #[.int .i64 0,.int .i64 0,.string ⟨#[]⟩,.bool false,.int .i64 0,.int .i64 0]) ∧ i.size = 6 ∧ i.bytes = 56:=by
 have h:=info36
 cases hi:Tryz.prog.info? 161 with
 | none=>rw [hi] at h;cases h
 | some i=>
  rw [hi] at h
  simp only [Option.map_some,Option.some.injEq,Prod.mk.injEq] at h
  exact ⟨i,rfl,h.1,h.2.1,h.2.2⟩
theorem zero36:(Value.agg #[.int .i64 0,.int .i64 0,.string ⟨#[]⟩,.bool false,.int .i64 0,.int .i64 0]).cells.size = 6:=by kernel_rfl
theorem OwnT.later {w w':World} {base:Nat} {v:Value} {l:List Tk} (h:OwnT w base v l) (hb:Below w.heap.size w w'):OwnT w' base v l:=by
 refine ⟨h.1,?_⟩
 rcases h.2 with h0 | ⟨g,cap,cur,hv,hg0,hg,hn,hm,hs,ht⟩
 ·
  exact Or.inl h0
 have hlt:g < w.heap.size:=by
  by_cases hlt:g < w.heap.size
  ·
   exact hlt
  rw [Array.getElem?_eq_none (by omega)] at hg;cases hg
 exact Or.inr ⟨g,cap,cur,hv,hg0,(hb.block g hlt).trans hg,hn,hm,hs,ht⟩
theorem OwnT.snoc {w:World} {base:Nat} {v:Value} {l:List Tk} {x:Tk} (h:w.ownsRow base 161 6 v (l.length + 1) (cellsT l ++ cellsT [x])):OwnT w base v (l ++ [x]):=by
 unfold OwnT
 rw [zim,List.length_append]
 exact h
theorem OwnT.nil (w:World) (base:Nat):OwnT w base (.slice none 0 0) []:=⟨rfl,Or.inl ⟨rfl,rfl⟩⟩
theorem OwnT.made (w:World):OwnT (w.alloc (.cells #[] 161)) w.heap.size (.slice (some ⟨w.heap.size,0,none⟩) 0 0) []:=World.ownsRow_made w #[] 0 (Nat.le_refl _) (Nat.zero_le _) (by simp)
def Ts (w:World) (ao:Option Addr) (n:Nat) (l:List Tk):Prop:=
 l.length = n ∧ (0 < n → ∃ b off,ao = some ⟨b,off,none⟩ ∧ ∀ j,j < n → ∀ i,i < 6 → w.cell? ⟨b,off + j * 6 + i,none⟩ = (six (l.getD j tk0))[i]?)
theorem Ts.nil (w:World) (ao:Option Addr):Ts w ao 0 []:=⟨rfl,fun h=>by omega⟩
theorem Ts.later {w w':World} {ao:Option Addr} {n:Nat} {l:List Tk} (h:Ts w ao n l) (hb:Below w.heap.size w w'):Ts w' ao n l:=by
 obtain ⟨h1,h4⟩:=h
 refine ⟨h1,fun hp=>?_⟩
 obtain ⟨b,off,e,hc⟩:=h4 hp
 refine ⟨b,off,e,fun j hj i hi=>?_⟩
 have h0:=hc j hj 0 (by omega)
 rw [(six_at _).1] at h0
 have hlt:b < w.heap.size:=World.block_lt_of_cell? _ _ h0
 rw [← hc j hj i hi]
 exact hb.cell (p:=⟨b,off + j * 6 + i,none⟩) hlt
theorem Ts.at {w:World} {b off n:Nat} {l:List Tk} (h:Ts w (some ⟨b,off,none⟩) n l) (j:Nat) (hj:j < n) :
  w.cell? ⟨b,off + j * 6,none⟩ = some (.int .i64 (l.getD j tk0).k) ∧ w.cell? ⟨b,off + j * 6 + 1,none⟩ = some (.int .i64 (l.getD j tk0).p) ∧ w.cell? ⟨b,off + j * 6 + 2,none⟩ = some (tx (l.getD j tk0).t) ∧ w.cell? ⟨b,off + j * 6 + 3,none⟩ = some (.bool (l.getD j tk0).o) ∧ w.cell? ⟨b,off + j * 6 + 4,none⟩ = some (.int .i64 (l.getD j tk0).n) ∧ w.cell? ⟨b,off + j * 6 + 5,none⟩ = some (.int .i64 (l.getD j tk0).d):=by
 obtain ⟨b',off',e,hc⟩:=h.2 (by omega)
 injection e with e
 injection e with e1 e2 _
 subst e1 e2
 have h:=hc j hj
 exact ⟨h 0 (by omega),h 1 (by omega),h 2 (by omega),h 3 (by omega),h 4 (by omega),h 5 (by omega)⟩
theorem OwnT.slice {w:World} {base:Nat} {v:Value} {l:List Tk} (h:OwnT w base v l):∃ ao cap,v = .slice ao l.length cap ∧ Ts w ao l.length l ∧ l.length ≤ cap ∧ ∀ a,ao = some a → ∃ g,a = ⟨g,0,none⟩ ∧ base ≤ g ∧ g < w.heap.size:=by
 rcases h.2 with ⟨rfl,h0⟩ | ⟨g,cap,cur,rfl,hb,hg,hn,_,hs,ht⟩
 ·
  have:l = []:=List.length_eq_zero_iff.1 h0
  subst this
  exact ⟨none,0,rfl,Ts.nil _ _,Nat.le_refl _,fun a e=>by cases e⟩
 have hlt:g < w.heap.size:=by
  by_cases hlt:g < w.heap.size
  ·
   exact hlt
  rw [Array.getElem?_eq_none (by omega)] at hg;cases hg
 refine ⟨_,cap,rfl,⟨rfl,fun _=>⟨g,0,rfl,fun j hj i hi=>?_⟩⟩,hn,fun a e=>by injection e with e;exact ⟨g,e.symm,hb,hlt⟩⟩
 rw [cell_of_row _ _ _ _ _ _ hg,Nat.zero_add]
 have e:(cur.toList.take (l.length * 6))[j * 6 + i]? = (cellsT l)[j * 6 + i]?:=by rw [ht]
 rw [List.getElem?_take_of_lt (by omega)] at e
 rw [← Array.getElem?_toList,e,zkh l j i hj hi]
theorem ziw {w:World} {b:Nat} {x:Tk} (h:BoxT w b x):∀ j u,(cellsT [x])[j]? = some u → w.cell? ((⟨b,0,none⟩:Addr).add j) = some u:=by
 intro j u hu
 rw [Addr.add_lit,Nat.zero_add]
 have e:cellsT [x] = six x:=by simp [cellsT]
 rw [e] at hu
 match j,hu with
 | 0,hu=>rw [h.c0];exact hu
 | 1,hu=>rw [h.c1];exact hu
 | 2,hu=>rw [h.c2];exact hu
 | 3,hu=>rw [h.c3];exact hu
 | 4,hu=>rw [h.c4];exact hu
 | 5,hu=>rw [h.c5];exact hu
 | j + 6,hu=>simp [six] at hu
/-! ### All blocks but these stay -/
structure Off (X:List Nat) (w w':World):Prop where
 os:w'.os = w.os
 tape:w'.tape = w.tape
 output:w'.output = w.output
 size:w.heap.size ≤ w'.heap.size
 block:∀ k,k < w.heap.size → k ∉ X → w'.heap[k]? = w.heap[k]?
theorem Off.refl (X:List Nat) (w:World):Off X w w:=⟨rfl,rfl,rfl,Nat.le_refl _,fun _ _ _=>rfl⟩
theorem Off.trans {X Y:List Nat} {a b c:World} (h:Off X a b) (k:Off Y b c) (hy:∀ y ∈ Y,y ∈ X ∨ a.heap.size ≤ y):Off X a c:=
 ⟨k.os.trans h.os,k.tape.trans h.tape,k.output.trans h.output,Nat.le_trans h.size k.size,fun i hi hx=>by
  rw [k.block i (Nat.lt_of_lt_of_le hi h.size) (fun hm=>by rcases hy i hm with h1 | h1;exact hx h1;omega),h.block i hi hx]⟩
theorem Off.then {X:List Nat} {a b c:World} (h:Off X a b) (k:Off X b c):Off X a c:=h.trans k (fun _ hy=>Or.inl hy)
theorem Off.of {w w':World} (h:Below w.heap.size w w') (X:List Nat):Off X w w':=⟨h.os,h.tape,h.output,h.size,fun k hk _=>h.block k hk⟩
theorem Off.on {X:List Nat} {a b c:World} (h:Off X a b) (k:Below b.heap.size b c):Off X a c:=h.trans (Off.of k []) (fun _ hy=>by cases hy)
theorem Off.new {X:List Nat} {a w:World} (h:Off X a w) (o:Obj):Off X a (w.alloc o):=h.on (bal (Below.refl _ _) o)
theorem Off.below {X:List Nat} {w w':World} (h:Off X w w') (hX:∀ x ∈ X,w.heap.size ≤ x):Below w.heap.size w w':=⟨h.os,h.tape,h.output,h.size,fun k hk=>h.block k hk (fun hm=>by have:=hX k hm;omega)⟩
theorem zah {w:World} {k:Nat} {o:Obj} (h:w.heap[k]? = some o):k < w.heap.size:=by
 by_cases hk:k < w.heap.size
 ·
  exact hk
 rw [Array.getElem?_eq_none (by omega)] at h;cases h
theorem Off.heap {X:List Nat} {w w':World} (h:Off X w w') {k:Nat} {o:Obj} (hk:w.heap[k]? = some o) (hx:k ∉ X):w'.heap[k]? = some o:=(h.block k (zah hk) hx).trans hk
theorem Off.cell {X:List Nat} {w w':World} (h:Off X w w') {b o:Nat} {v:Value} (hc:w.cell? ⟨b,o,none⟩ = some v) (hx:b ∉ X):w'.cell? ⟨b,o,none⟩ = some v:=
 (World.cell?_of_block (a:=⟨b,o,none⟩) (h.block b (World.block_lt_of_cell? _ _ hc) hx)).trans hc
theorem zac (w:World) (o:Obj):(w.alloc o).heap[w.heap.size]? = some o:=by
 show (w.heap.push o)[w.heap.size]? = some o
 simp
theorem zab {w w':World} (h:Below w.heap.size w w') {k:Nat} {o:Obj} (hk:w.heap[k]? = some o):w'.heap[k]? = some o:=(h.block k (zah hk)).trans hk
theorem zat {w:World} {k:Nat} {o:Obj} (h:w.heap[k]? = some o) (o':Obj):(w.alloc o').heap[k]? = some o:=zab (bal (Below.refl _ _) o') h
theorem zbd (w:World) (o:Obj):(w.alloc o).heap.size = w.heap.size + 1:=by simp
theorem zaf (w:World) (o:Obj):w.heap.size + 1 ≤ (w.alloc o).heap.size:=by simp
/-! ### Cells of a block -/
theorem zaa {w:World} {b:Nat} {cs:Array Value} {t:TypeId} (h:w.heap[b]? = some (.cells cs t)) (i:Nat):w.cell? ⟨b,i,none⟩ = cs[i]?:=by
 unfold World.cell?
 rw [h]
 rfl
theorem zce {w:World} {b:Nat} {cs:Array Value} {t:TypeId} (h:w.heap[b]? = some (.cells cs t)) (i:Nat):w.frozen? ⟨b,i,none⟩ = false:=by
 unfold World.frozen?
 rw [h]
 simp
theorem zbe {w:World} {b:Nat} {cs:Array Value} {t:TypeId} (h:w.heap[b]? = some (.cells cs t)) (i:Nat) (v:Value):(w.setCell ⟨b,i,none⟩ v).heap[b]? = some (.cells (cs.setIfInBounds i v) t):=by
 have hb:=zah h
 show (w.heap.modify b _)[b]? = _
 rw [Array.getElem?_modify,if_pos rfl,h]
 rfl
theorem zbr (w:World) (b i:Nat) (v:Value):Off [b] w (w.setCell ⟨b,i,none⟩ v):=⟨rfl,rfl,rfl,by simp [World.setCell],fun k _ hx=>Below.heap_setCell _ _ _ _ (by simpa using hx)⟩
theorem zia {w:World} {b:Nat} {old cs:Array Value} {t:TypeId} (h:w.heap[b]? = some (.cells old t)):(w.setRow b cs).heap[b]? = some (.cells cs t):=by
 show (w.heap.modify b _)[b]? = _
 rw [Array.getElem?_modify,if_pos rfl,h]
 rfl
theorem zkw (w:World) (b:Nat) (cs:Array Value):Off [b] w (w.setRow b cs):=⟨rfl,rfl,rfl,by simp [World.setRow],fun k _ hx=>by
 show (w.heap.modify b _)[k]? = _
 rw [Array.getElem?_modify,if_neg (by simpa using fun e=>hx (by simp [e]))]⟩
/-! ### Whole structs -/
theorem zae:(Tryz.prog.info? 28).map (·.size) = some 13:=by kernel_rfl
theorem zcd:(Tryz.prog.info? 356).map (·.size) = some 14:=by kernel_rfl
theorem zbn:(Tryz.prog.info? 161).map (·.size) = some 6:=by kernel_rfl
theorem zex:(Tryz.prog.info? 57).map (·.size) = some 3:=by kernel_rfl
theorem inf58:(Tryz.prog.info? 165).map (·.size) = some 1:=by kernel_rfl
def Row (n:Nat) (cs:Array Value):Prop:=cs.size = n ∧ cs.toList.all (·.oneCell') = true
theorem Row.all {n:Nat} {cs:Array Value} (h:Row n cs):cs.all (·.oneCell') = true:=by rw [← Array.all_toList];exact h.2
theorem zad {w:World} {ops:Array Oper} {rest:List Oper} {o:Oper} {a:Act} {Q:Exit → Act → World → Prop} (hgd:o.guard = none) (ty:TypeId) (x y:Operand) (ho:o.op = .store ty x y) (g:Nat) (cs:Array Value)
  (hx:a.eval x = .pointer (some ⟨g,0,none⟩)) (hy:a.eval y = .agg cs) (old:Array Value) (t:TypeId) (hold:w.heap[g]? = some (.cells old t)) (n:Nat) (hi:(Tryz.prog.info? ty).map (·.size) = some n) (ho1:old.size = n) (hr:Row n cs)
  (h:∀ W,W.heap[g]? = some (.cells cs t) → Off [g] w W → W.heap.size = w.heap.size → wpList Tryz.prog ops Q rest (a.put o.dst undef) W):wpList Tryz.prog ops Q (o :: rest) a w:=
 wpList_store_row hgd ty x y ho g cs hx hy t old hold (by rw [hi,hr.1]) (by rw [ho1,hr.1]) hr.all (h _ (zia hold) (zkw _ _ _) (by simp [World.setRow]))
theorem zaj {w:World} {ops:Array Oper} {rest:List Oper} {o:Oper} {a:Act} {Q:Exit → Act → World → Prop} (hgd:o.guard = none) (ty:TypeId) (x:Operand) (ho:o.op = .load ty x) (g:Nat) (cs:Array Value) (t:TypeId)
  (hx:a.eval x = .pointer (some ⟨g,0,none⟩)) (hold:w.heap[g]? = some (.cells cs t)) (d:TypeDesc) (hu:Tryz.prog.underlying ty = some d) (hd:d.isRow = true) (n:Nat) (hi:(Tryz.prog.info? ty).map (·.size) = some n) (hn:cs.size = n)
  (h:wpList Tryz.prog ops Q rest (a.put o.dst (.agg cs)) w):wpList Tryz.prog ops Q (o :: rest) a w:=by
 refine wpList_load_mid hgd ty x ho g 0 hx cs.toList d (fun j v hv=>?_) hu hd (by rw [hi,← hn];simp) ?_
 ·
  rw [Nat.zero_add,zaa hold]
  simpa using hv
 simpa using h
theorem run_st (w:World) (g i:Nat) (ty:TypeId) (v:Value) (cs:Array Value) (t:TypeId) (hold:w.heap[g]? = some (.cells cs t)) (hi:i < cs.size) (hin:(Tryz.prog.info? ty).map (·.size) = some 1) (hv:v.oneCell' = true) :
  (storeVar ty ⟨g,i,none⟩ v).run Tryz.prog w = .ok () (w.setCell ⟨g,i,none⟩ v):=by
 have hc:(w.cell? ⟨g,i,none⟩).isSome = true:=by rw [zaa hold,Array.getElem?_eq_getElem hi];rfl
 have z:∀ j,j < [v].length → j = 0:=fun j hj=>by simpa using hj
 have q1:∀ j,j < [v].length → (w.cell? ⟨g,i + 0 + j,none⟩).isSome = true:=fun j hj=>by rw [z j hj];exact hc
 have q2:∀ j,j < [v].length → w.frozen? ⟨g,i + 0 + j,none⟩ = false:=fun j hj=>by rw [z j hj];exact zce hold i
 have:=run_storeCells_cells (P:=Tryz.prog) g i [v] 0 w q1 q2 (fun u hu=>by rw [List.mem_singleton.1 hu];exact hv)
 have hcs:v.cells = #[v]:=by cases v <;> first | rfl | cases hv
 cases hq:Tryz.prog.info? ty with
 | none=>simp [hq] at hin
 | some k=>
  have hs:k.size = 1:=by simpa [hq] using hin
  simp only [Nat.add_zero] at this
  simp [storeVar,sizeOf,typeInfo,hq,hcs,hs,this,World.setCells]
theorem zdt {w:World} {ops:Array Oper} {rest:List Oper} {o:Oper} {a:Act} {Q:Exit → Act → World → Prop} (hgd:o.guard = none) (ty:TypeId) (x y:Operand) (ho:o.op = .store ty x y) (g i:Nat) (v:Value)
  (hx:a.eval x = .pointer (some ⟨g,i,none⟩)) (hy:a.eval y = v) (cs:Array Value) (t:TypeId) (hold:w.heap[g]? = some (.cells cs t)) (hi:i < cs.size) (hin:(Tryz.prog.info? ty).map (·.size) = some 1) (hv:v.oneCell' = true) (cs':Array Value) (hcs:cs.setIfInBounds i v = cs')
  (h:∀ W,W.heap[g]? = some (.cells cs' t) → Off [g] w W → W.heap.size = w.heap.size → wpList Tryz.prog ops Q rest (a.put o.dst undef) W):wpList Tryz.prog ops Q (o :: rest) a w:=by
 refine wpList_plain hgd fun K hK=>?_
 have e:=h _ (by have:=zbe hold i v;rw [hcs] at this;exact this) (zbr _ _ _ _) (by simp [World.setCell])
 have k:=hK _ _ e
 unfold Oper.wp execOp
 simp only [ho,hx,hy,Instr.storeAt,Instr.sureAddr,Sem.run_bind,Sem.run_pure,Result.andThen_ok,run_st w g i ty v cs t hold hi hin hv]
 exact k
theorem inf3:(Tryz.prog.info? 3).map (·.size) = some 1:=by kernel_rfl
theorem inf4:(Tryz.prog.info? 4).map (·.size) = some 1:=by kernel_rfl
theorem inf9:(Tryz.prog.info? 9).map (·.size) = some 1:=by kernel_rfl
theorem inf25:(Tryz.prog.info? 24).map (·.size) = some 1:=by kernel_rfl
theorem zos:(Tryz.prog.info? 26).map (·.size) = some 1:=by kernel_rfl
theorem zak {fn:Func} {p:Tmp} {ty:TypeId} (h:fn.results = #[.cell p ty]) (tmps:Array Value) (w:World) (g:Nat) (t:TypeId) (cs:Array Value) (d:TypeDesc) (hp:tmps.getD p undef = .pointer (some ⟨g,0,none⟩)) (hg:w.heap[g]? = some (.cells cs t))
  (hu:Tryz.prog.underlying ty = some d) (hd:d.isRow = true) (n:Nat) (hi:(Tryz.prog.info? ty).map (·.size) = some n) (hn:cs.size = n):(results fn tmps).run Tryz.prog w = .ok (.agg cs) w:=by
 refine results_cell_row h tmps w g t cs (0,0) d hp hg hu ?_ (by rw [hi,hn])
 cases d <;> simp_all [TypeDesc.isRow]
theorem zai {fn:Func} {p u:Tmp} {ty:TypeId} (h:fn.results = #[.cell p ty,.tmp u]) (tmps:Array Value) (w:World) (g:Nat) (t:TypeId) (cs:Array Value) (d:TypeDesc) (hp:tmps.getD p undef = .pointer (some ⟨g,0,none⟩)) (hg:w.heap[g]? = some (.cells cs t))
  (hu:Tryz.prog.underlying ty = some d) (hd:d.isRow = true) (n:Nat) (hi:(Tryz.prog.info? ty).map (·.size) = some n) (hn:cs.size = n):(results fn tmps).run Tryz.prog w = .ok (.tuple #[.agg cs,tmps.getD u undef]) w:=by
 rw [results_cell_tmp h,hp]
 have e:(loadVar ty ⟨g,0,none⟩).run Tryz.prog w = .ok (.agg cs) w:=run_loadVar_row w g t ty cs (0,0) d hg hu (by cases d <;> simp_all [TypeDesc.isRow]) (by rw [hi,hn])
 have e2:(asAddr (.pointer (some ⟨g,0,none⟩))).run Tryz.prog w = .ok ⟨g,0,none⟩ w:=by simp [asAddr,go_sem]
 rw [e2]
 simp only [Result.andThen,e]
def cellsM (l:List Mt):List Value:=l.flatMap fun m=>[tx m.name,.int .i64 m.kind,tx m.text]
def SlP (P:Nat → Prop) (w:World) (v:Value) (n:Nat) (cs:List Value):Prop:=
 ∃ ao cap,v = .slice ao n cap ∧ n ≤ cap ∧ (0 < n → ∃ b off,ao = some ⟨b,off,none⟩ ∧ P b ∧ ∀ j,j < cs.length → w.cell? ⟨b,off + j,none⟩ = cs[j]?)
abbrev Sl (w:World) (lo:Nat) (v:Value) (n:Nat) (cs:List Value):Prop:=SlP (fun b=>lo ≤ b) w v n cs
theorem SlP.off {P:Nat → Prop} {X:List Nat} {w w':World} {n:Nat} {v:Value} {cs:List Value} (h:SlP P w v n cs) (ho:Off X w w') (hX:∀ x ∈ X,¬ P x):SlP P w' v n cs:=by
 obtain ⟨ao,cap,e,hc,h4⟩:=h
 refine ⟨ao,cap,e,hc,fun hp=>?_⟩
 obtain ⟨b,off,e1,hl,hcs⟩:=h4 hp
 refine ⟨b,off,e1,hl,fun j hj=>?_⟩
 have hq:=hcs j hj
 rw [List.getElem?_eq_getElem hj] at hq ⊢
 exact ho.cell hq (fun hm=>hX b hm hl)
theorem Sl.off {X:List Nat} {w w':World} {lo n:Nat} {v:Value} {cs:List Value} (h:Sl w lo v n cs) (ho:Off X w w') (hX:∀ x ∈ X,x < lo):Sl w' lo v n cs:=SlP.off h ho (fun x hx e=>by have:=hX x hx;omega)
theorem SlP.mono {P P':Nat → Prop} {w:World} {n:Nat} {v:Value} {cs:List Value} (h:SlP P w v n cs) (hP:∀ b,P b → P' b):SlP P' w v n cs:=by
 obtain ⟨ao,cap,e,hc,h4⟩:=h
 refine ⟨ao,cap,e,hc,fun hp=>?_⟩
 obtain ⟨b,off,e1,hl1,hcs⟩:=h4 hp
 exact ⟨b,off,e1,hP b hl1,hcs⟩
theorem Sl.lower {w:World} {lo lo' n:Nat} {v:Value} {cs:List Value} (h:Sl w lo v n cs) (hl:lo' ≤ lo):Sl w lo' v n cs:=SlP.mono h (fun b hb=>by omega)
theorem Sl.nil (w:World) (P:Nat → Prop) (cs:List Value):SlP P w (.slice none 0 0) 0 cs:=⟨none,0,rfl,Nat.le_refl _,fun h=>by omega⟩
theorem Sl.made {P:Nat → Prop} {w:World} {b n:Nat} {cs:Array Value} {t:TypeId} (h:w.heap[b]? = some (.cells cs t)) (hl:P b):SlP P w (.slice (some ⟨b,0,none⟩) n n) n cs.toList:=
 ⟨_,_,rfl,Nat.le_refl _,fun _=>⟨b,0,rfl,hl,fun j _=>by rw [zaa h,Nat.zero_add];simp⟩⟩
theorem Sl.owns {w:World} {base size n:Nat} {e:TypeId} {v:Value} {cs:List Value} (h:w.ownsRow base e size v n cs) (hc:cs.length = n * size):Sl w base v n cs:=by
 rcases h.2 with ⟨rfl,h0⟩ | ⟨g,cap,cur,rfl,hb,hg,hn,_,hs,ht⟩
 ·
  subst h0
  exact Sl.nil _ _ _
 refine ⟨_,cap,rfl,hn,fun _=>⟨g,0,rfl,hb,fun j hj=>?_⟩⟩
 rw [cell_of_row _ _ _ _ _ _ hg,Nat.zero_add,← ht,List.getElem?_take_of_lt (by omega)]
 simp
abbrev exA (k p:Int) (o:Bool) (v:Int) (s:Str) (vm:Value) (r:Int) (b1 b2 b3 b4:Bool) (vn vk:Value):Array Value:=#[.int .i64 k,.int .i64 p,.bool o,.int .i64 v,tx s,vm,.int .i64 r,.bool b1,.bool b2,.bool b3,.bool b4,vn,vk]
def TrP (P:Nat → Prop) (w:World):Ex → Array Value → Prop
 | ⟨k,p,o,v,s,m,r,b1,b2,b3,b4,ns,ks⟩,cs=>∃ (vm vn vk:Value) (kss:List (Array Value)),cs = exA k p o v s vm r b1 b2 b3 b4 vn vk ∧ SlP P w vm m.length (cellsM m) ∧ SlP P w vn ns.length (ns.map tx) ∧ SlP P w vk ks.length (kss.flatMap (·.toList)) ∧ kss.length = ks.length ∧ ∀ (i:Nat) (x:Ex),x ∈ ks → ks[i]? = some x → TrP P w x (kss.getD i #[])
abbrev Tr (lo:Nat) (w:World) (e:Ex) (cs:Array Value):Prop:=TrP (fun b=>lo ≤ b) w e cs
theorem zfm (P:Nat → Prop) (w:World) (e:Ex) (cs:Array Value):TrP P w e cs ↔ ∃ (vm vn vk:Value) (kss:List (Array Value)),cs = exA e.k e.p e.o e.v e.s vm e.r e.b1 e.b2 e.b3 e.b4 vn vk ∧ SlP P w vm e.m.length (cellsM e.m) ∧ SlP P w vn e.ns.length (e.ns.map tx) ∧ SlP P w vk e.ks.length (kss.flatMap (·.toList)) ∧ kss.length = e.ks.length ∧ ∀ (i:Nat) (x:Ex),x ∈ e.ks → e.ks[i]? = some x → TrP P w x (kss.getD i #[]):=by
 cases e
 rw [TrP]
theorem Ex.ind (P:Ex → Prop) (h:∀ e,(∀ x ∈ e.ks,P x) → P e):∀ e,P e:=by
 have:∀ (n:Nat) (e:Ex),SizeOf.sizeOf e ≤ n → P e:=by
  intro n
  induction n with
  | zero=>intro e he;cases e;simp at he
  | succ n ih=>
   intro e he
   apply h
   intro x hx
   apply ih
   cases e
   have:=List.sizeOf_lt_of_mem hx
   simp at *
   omega
 exact fun e=>this _ e (Nat.le_refl _)
theorem TrP.off {P:Nat → Prop} {X:List Nat} {w w':World} (ho:Off X w w') (hX:∀ x ∈ X,¬ P x):∀ (e:Ex) {cs:Array Value},TrP P w e cs → TrP P w' e cs:=by
 refine Ex.ind _ ?_
 intro e ih cs h
 rw [zfm] at h ⊢
 obtain ⟨vm,vn,vk,kss,h1,h2,h3,h4,h5,h6⟩:=h
 exact ⟨vm,vn,vk,kss,h1,h2.off ho hX,h3.off ho hX,h4.off ho hX,h5,fun i x hx hi=>ih x hx (h6 i x hx hi)⟩
theorem Tr.off {X:List Nat} {w w':World} {lo:Nat} (ho:Off X w w') (hX:∀ x ∈ X,x < lo) (e:Ex) {cs:Array Value} (h:Tr lo w e cs):Tr lo w' e cs:=TrP.off ho (fun x hx q=>by have:=hX x hx;omega) e h
theorem TrP.mono {P P':Nat → Prop} {w:World} (hP:∀ b,P b → P' b):∀ (e:Ex) {cs:Array Value},TrP P w e cs → TrP P' w e cs:=by
 refine Ex.ind _ ?_
 intro e ih cs h
 rw [zfm] at h ⊢
 obtain ⟨vm,vn,vk,kss,h1,h2,h3,h4,h5,h6⟩:=h
 exact ⟨vm,vn,vk,kss,h1,h2.mono hP,h3.mono hP,h4.mono hP,h5,fun i x hx hi=>ih x hx (h6 i x hx hi)⟩
theorem Tr.lower {w:World} {lo lo':Nat} (hl:lo' ≤ lo) (e:Ex) {cs:Array Value} (h:Tr lo w e cs):Tr lo' w e cs:=TrP.mono (fun b hb=>by omega) e h
theorem TrP.row {P:Nat → Prop} {w:World} {e:Ex} {cs:Array Value} (h:TrP P w e cs):Row 13 cs:=by
 rw [zfm] at h
 obtain ⟨vm,vn,vk,kss,rfl,⟨_,_,rfl,_⟩,⟨_,_,rfl,_⟩,⟨_,_,rfl,_⟩,_⟩:=h
 exact ⟨rfl,rfl⟩
theorem Tr.row {w:World} {lo:Nat} {e:Ex} {cs:Array Value} (h:Tr lo w e cs):Row 13 cs:=TrP.row h
theorem TrP.later {P:Nat → Prop} {w w':World} {e:Ex} {cs:Array Value} (h:TrP P w e cs) (hb:Below w.heap.size w w'):TrP P w' e cs:=TrP.off (Off.of hb []) (fun _ hx=>by cases hx) e h
theorem Tr.later {w w':World} {lo:Nat} {e:Ex} {cs:Array Value} (h:Tr lo w e cs) (hb:Below w.heap.size w w'):Tr lo w' e cs:=TrP.later h hb
theorem SlP.later {P:Nat → Prop} {w w':World} {n:Nat} {v:Value} {cs:List Value} (h:SlP P w v n cs) (hb:Below w.heap.size w w'):SlP P w' v n cs:=h.off (Off.of hb []) (fun _ hx=>by cases hx)
theorem Sl.later {w w':World} {lo n:Nat} {v:Value} {cs:List Value} (h:Sl w lo v n cs) (hb:Below w.heap.size w w'):Sl w' lo v n cs:=SlP.later h hb
theorem Tr.leaf {P:Nat → Prop} {w:World} {k p v r:Int} {o b1 b2 b3 b4:Bool} {s:Str} {m:List Mt} {ns:List Str} {vm vn:Value} (hm:SlP P w vm m.length (cellsM m)) (hn:SlP P w vn ns.length (ns.map tx)) :
  TrP P w ⟨k,p,o,v,s,m,r,b1,b2,b3,b4,ns,[]⟩ (exA k p o v s vm r b1 b2 b3 b4 vn (.slice none 0 0)):=by
 rw [zfm]
 exact ⟨vm,vn,_,[],rfl,hm,hn,Sl.nil _ _ _,rfl,fun i x hx=>by cases hx⟩
theorem Tr.kid1 {P:Nat → Prop} {w:World} {b:Nat} {k p v r:Int} {o b1 b2 b3 b4:Bool} {s:Str} {m:List Mt} {ns:List Str} {vm vn:Value} {e1:Ex} {c1:Array Value} {t:TypeId} (hm:SlP P w vm m.length (cellsM m)) (hn:SlP P w vn ns.length (ns.map tx)) (hk:w.heap[b]? = some (.cells c1 t)) (hl:P b) (h1:TrP P w e1 c1) :
  TrP P w ⟨k,p,o,v,s,m,r,b1,b2,b3,b4,ns,[e1]⟩ (exA k p o v s vm r b1 b2 b3 b4 vn (.slice (some ⟨b,0,none⟩) 1 1)):=by
 rw [zfm]
 refine ⟨vm,vn,_,[c1],rfl,hm,hn,?_,rfl,fun i x hx hi=>?_⟩
 ·
  have:=Sl.made (P:=P) (n:=1) hk hl
  simpa using this
 cases i with
 | zero=>simp at hi;subst hi;exact h1
 | succ i=>simp at hi
theorem Tr.kid2 {P:Nat → Prop} {w:World} {b:Nat} {k p v r:Int} {o b1 b2 b3 b4:Bool} {s:Str} {m:List Mt} {ns:List Str} {vm vn:Value} {e1 e2:Ex} {c1 c2:Array Value} {t:TypeId} (hm:SlP P w vm m.length (cellsM m)) (hn:SlP P w vn ns.length (ns.map tx)) (hk:w.heap[b]? = some (.cells (c1 ++ c2) t)) (hl:P b) (h1:TrP P w e1 c1) (h2:TrP P w e2 c2) :
  TrP P w ⟨k,p,o,v,s,m,r,b1,b2,b3,b4,ns,[e1,e2]⟩ (exA k p o v s vm r b1 b2 b3 b4 vn (.slice (some ⟨b,0,none⟩) 2 2)):=by
 rw [zfm]
 refine ⟨vm,vn,_,[c1,c2],rfl,hm,hn,?_,rfl,fun i x hx hi=>?_⟩
 ·
  have:=Sl.made (P:=P) (n:=2) hk hl
  simpa using this
 match i,hi with
 | 0,hi=>simp at hi;subst hi;exact h1
 | 1,hi=>simp at hi;subst hi;exact h2
 | i + 2,hi=>simp at hi
/-! ### A slice made of one tree, of two -/
theorem row13 {cs:Array Value} (h:cs.size = 13):∃ c0 c1 c2 c3 c4 c5 c6 c7 c8 c9 c10 c11 c12,cs = #[c0,c1,c2,c3,c4,c5,c6,c7,c8,c9,c10,c11,c12]:=
 ⟨cs[0],cs[1],cs[2],cs[3],cs[4],cs[5],cs[6],cs[7],cs[8],cs[9],cs[10],cs[11],cs[12],by
  apply Array.ext
  ·
   exact h
  intro i h1 h2
  match i,h1,h2 with
  | 0,_,_=>rfl | 1,_,_=>rfl | 2,_,_=>rfl | 3,_,_=>rfl | 4,_,_=>rfl | 5,_,_=>rfl | 6,_,_=>rfl | 7,_,_=>rfl | 8,_,_=>rfl | 9,_,_=>rfl | 10,_,_=>rfl | 11,_,_=>rfl | 12,_,_=>rfl
  | i + 13,h1,_=>omega⟩
theorem run_mk1 (w:World) (cs:Array Value) (h:cs.size = 13):(Instr.buildSlice 26 1 #[(0,.agg cs)]).run Tryz.prog w = .ok (.slice (some ⟨w.heap.size,0,none⟩) 1 1) (w.alloc (.cells cs 28)):=by
 obtain ⟨c0,c1,c2,c3,c4,c5,c6,c7,c8,c9,c10,c11,c12,rfl⟩:=row13 h
 kernel_rfl
theorem run_mk2 (w:World) (cs ds:Array Value) (h:cs.size = 13) (h2:ds.size = 13):(Instr.buildSlice 26 2 #[(0,.agg cs),(1,.agg ds)]).run Tryz.prog w = .ok (.slice (some ⟨w.heap.size,0,none⟩) 2 2) (w.alloc (.cells (cs ++ ds) 28)):=by
 obtain ⟨c0,c1,c2,c3,c4,c5,c6,c7,c8,c9,c10,c11,c12,rfl⟩:=row13 h
 obtain ⟨d0,d1,d2,d3,d4,d5,d6,d7,d8,d9,d10,d11,d12,rfl⟩:=row13 h2
 kernel_rfl
structure Rc where
 b:Nat
 ta:Option Addr
 n:Nat
 c:Nat
 T:List Tk
 q:Int
abbrev Rc.ptr (R:Rc):Value:=.pointer (some ⟨R.b,0,none⟩)
abbrev rdC (R:Rc) (i dp fp fy:Int):Array Value:=#[.slice R.ta R.n R.c,.int .i64 i,.int .i64 R.q,.int .i64 dp,.int .i64 fp,.int .i64 fy]
structure Rd (R:Rc) (w:World) (i:Nat) (dp fp fy:Int):Prop where
 h:w.heap[R.b]? = some (.cells (rdC R i dp fp fy) 170)
 ts:Ts w R.ta R.n R.T
 lt:∀ a,R.ta = some a → 0 < R.n → a.block < R.b
 ib:i ≤ R.n
 nb:R.n ≤ 1000000
theorem Rd.c0 {R:Rc} {w:World} {i:Nat} {dp fp fy:Int} (h:Rd R w i dp fp fy):w.cell? ⟨R.b,0,none⟩ = some (.slice R.ta R.n R.c):=(zaa h.h 0).trans rfl
theorem Rd.c1 {R:Rc} {w:World} {i:Nat} {dp fp fy:Int} (h:Rd R w i dp fp fy):w.cell? ⟨R.b,1,none⟩ = some (.int .i64 i):=(zaa h.h 1).trans rfl
theorem Rd.c2 {R:Rc} {w:World} {i:Nat} {dp fp fy:Int} (h:Rd R w i dp fp fy):w.cell? ⟨R.b,2,none⟩ = some (.int .i64 R.q):=(zaa h.h 2).trans rfl
theorem Rd.c3 {R:Rc} {w:World} {i:Nat} {dp fp fy:Int} (h:Rd R w i dp fp fy):w.cell? ⟨R.b,3,none⟩ = some (.int .i64 dp):=(zaa h.h 3).trans rfl
theorem Rd.c4 {R:Rc} {w:World} {i:Nat} {dp fp fy:Int} (h:Rd R w i dp fp fy):w.cell? ⟨R.b,4,none⟩ = some (.int .i64 fp):=(zaa h.h 4).trans rfl
theorem Rd.c5 {R:Rc} {w:World} {i:Nat} {dp fp fy:Int} (h:Rd R w i dp fp fy):w.cell? ⟨R.b,5,none⟩ = some (.int .i64 fy):=(zaa h.h 5).trans rfl
theorem Rd.fz {R:Rc} {w:World} {i:Nat} {dp fp fy:Int} (h:Rd R w i dp fp fy) (j:Nat):w.frozen? ⟨R.b,j,none⟩ = false:=zce h.h j
theorem Rd.bl {R:Rc} {w:World} {i:Nat} {dp fp fy:Int} (h:Rd R w i dp fp fy):R.b < w.heap.size:=zah h.h
theorem Ts.off {X:List Nat} {w w':World} {ao:Option Addr} {n:Nat} {l:List Tk} (h:Ts w ao n l) (ho:Off X w w') (hX:∀ a,ao = some a → 0 < n → a.block ∉ X):Ts w' ao n l:=by
 obtain ⟨h1,h4⟩:=h
 refine ⟨h1,fun hp=>?_⟩
 obtain ⟨b,off,e,hc⟩:=h4 hp
 refine ⟨b,off,e,fun j hj i hi=>?_⟩
 have hq:=hc j hj i hi
 have hl:i < (six (l.getD j tk0)).length:=hi
 rw [List.getElem?_eq_getElem hl] at hq ⊢
 exact ho.cell hq (hX _ e hp)
theorem Rd.off {R:Rc} {X:List Nat} {w w':World} {i:Nat} {dp fp fy:Int} (h:Rd R w i dp fp fy) (ho:Off X w w') (hX:∀ x ∈ X,R.b < x):Rd R w' i dp fp fy:=
 ⟨ho.heap h.h (fun hm=>by have:=hX _ hm;omega),h.ts.off ho (fun a e hp hm=>by have:=hX _ hm;have:=h.lt a e hp;omega),h.lt,h.ib,h.nb⟩
theorem Rd.later {R:Rc} {w w':World} {i:Nat} {dp fp fy:Int} (h:Rd R w i dp fp fy) (hb:Below w.heap.size w w'):Rd R w' i dp fp fy:=h.off (Off.of hb []) (fun _ hx=>by cases hx)
theorem Rd.put {R:Rc} {w w':World} {i j:Nat} {dp fp fy dp' fp' fy':Int} (h:Rd R w i dp fp fy) (ho:Off [R.b] w w') (hj:j ≤ R.n) (hh:w'.heap[R.b]? = some (.cells (rdC R j dp' fp' fy') 170)):Rd R w' j dp' fp' fy':=
 ⟨hh,h.ts.off ho (fun a e hp hm=>by have:=h.lt a e hp;simp at hm;omega),h.lt,hj,h.nb⟩
theorem hd_at {q:Int} {T:List Tk} {i:Nat} (h:i < T.length):hd q (T.drop i) = T.getD i tk0:=by
 unfold hd
 rw [List.drop_eq_getElem_cons h]
 simp [List.getD,List.getElem?_eq_getElem h]
theorem hd_end {q:Int} {T:List Tk} {i:Nat} (h:T.length ≤ i):hd q (T.drop i) = ⟨0,q,[],false,0,0⟩:=by
 unfold hd
 rw [List.drop_eq_nil_of_le h]
 rfl
theorem zkk (R:Rc) {w:World} {i:Nat} {dp fp fy:Int} (k j:Nat) (hj:(i:Int) + (k:Int) = (j:Int)) (hk:k ≤ 10) (h:Rd R w i dp fp fy) :
  Calls Tryz.prog 203 #[R.ptr,.int .i64 k] w fun e w'=>e = .returned (tv (hd R.q (R.T.drop j))) ∧ Below w.heap.size w w':=by
 have c0:=h.c0
 have c1:=h.c1
 have c2:=h.c2
 have hbl:=h.bl
 have hl:=h.ts.1
 have hnb:=h.nb
 have hib:=h.ib
 by_cases hlt:j < R.n
 ·
  obtain ⟨tb,off,hta,-⟩:=h.ts.2 (by omega)
  rw [hd_at (by rw [hl];exact hlt)]
  have hts:=h.ts
  rw [hta] at hts c0
  obtain ⟨d0,d1,d2,d3,d4,d5⟩:=hts.at j hlt
  have htb:tb < w.heap.size:=Nat.lt_trans (h.lt _ hta (by omega)) hbl
  generalize R.T.getD j tk0 = x at *
  have hlt':(j:Int) < R.n:=by omega
  clear hl h hts hta
  go_enter Tryz.func203,Tryz.ntmps203
  go_wp2_with fail
  exact bodyPost_ret (v:=tv x) (by simp [results,Tryz.results203,go_sem]) rfl ⟨rfl,bal (Below.refl _ _) _⟩
 rw [hd_end (by rw [hl];omega)]
 have hlt':¬ (j:Int) < R.n:=by omega
 clear hl h hlt
 go_enter Tryz.func203,Tryz.ntmps203
 go_wp2_with fail
 exact bodyPost_ret (v:=tv ⟨0,R.q,[],false,0,0⟩) (by simp [results,Tryz.results203,go_sem]) rfl ⟨rfl,bal (Below.refl _ _) _⟩
theorem zao (R:Rc) {w:World} {i:Nat} {dp fp fy:Int} (h:Rd R w i dp fp fy) :
  Calls Tryz.prog 203 #[R.ptr,.int .i64 0] w fun e w'=>e = .returned (tv (hd R.q (R.T.drop i))) ∧ Below w.heap.size w w':=
 zkk R 0 i (by simp) (by omega) h
theorem zhq (R:Rc) {w:World} {i:Nat} {dp fp fy:Int} (h:Rd R w i dp fp fy) :
  Calls Tryz.prog 203 #[R.ptr,.int .i64 1] w fun e w'=>e = .returned (tv (hd R.q (R.T.drop (i + 1)))) ∧ Below w.heap.size w w':=
 zkk R 1 (i + 1) (by simp) (by omega) h
theorem fld0 (x:Tk) (W:World):(Instr.field 161 (tv x) 0).run Tryz.prog W = .ok (.int .i64 x.k) W:=by kernel_rfl
theorem fld1 (x:Tk) (W:World):(Instr.field 161 (tv x) 1).run Tryz.prog W = .ok (.int .i64 x.p) W:=by kernel_rfl
theorem fld2 (x:Tk) (W:World):(Instr.field 161 (tv x) 2).run Tryz.prog W = .ok (tx x.t) W:=by kernel_rfl
theorem zbb (t:Tk) (s:Str) (w:World):Calls Tryz.prog 356 #[tv t,tx s] w fun e w'=>e = .returned (.bool (sg t s)) ∧ Below w.heap.size w w':=by
 unfold sg
 cases hk:t.k == 5 with
 | false=>
  go_enter Tryz.func356,Tryz.ntmps356
  go_wp2_with fail
  go_ret
  exact ⟨rfl,bal (Below.refl _ _) _⟩
 | true=>
  go_enter Tryz.func356,Tryz.ntmps356
  go_wp2_with fail
  go_ret
  exact ⟨by simp,bal (Below.refl _ _) _⟩
theorem zdb (R:Rc) {w:World} {i:Nat} {dp fp fy:Int} (h:Rd R w i dp fp fy) :
  Calls Tryz.prog 262 #[R.ptr] w fun e w'=>e = .returned (.agg #[.int .i64 (hd R.q (R.T.drop i)).p]) ∧ Below w.heap.size w w':=by
 have h1:=h.later (bal (Below.refl _ _) (.cells #[.int .i64 0] 165))
 have ha:=zao R h1
 have hh:=zac w (.cells #[.int .i64 0] 165)
 generalize hd R.q (R.T.drop i) = x at *
 have hf:=fld1 x
 go_enter Tryz.func262,Tryz.ntmps262
 go_wp2_with fail
 refine ha.mono ?_
 rintro e w1 ⟨rfl,hb⟩
 have hh1:=zab hb hh
 have B:=Below.chain (bal (Below.refl _ _) _) hb
 go_wp2_with (refine zad rfl 165 _ _ rfl w.heap.size #[.int .i64 x.p] rfl rfl #[.int .i64 0] 165 hh1 1 inf58 rfl ⟨rfl,rfl⟩ ?_;intro W hW hO hz)
 exact bodyPost_ret (zak Tryz.results262 _ _ w.heap.size 165 #[.int .i64 x.p] _ rfl hW Tryz.underlying165 rfl 1 inf58 rfl) rfl ⟨rfl,((Off.of B [w.heap.size]).then hO).below (by simp)⟩
theorem zbo (R:Rc) {w:World} {i:Nat} {dp fp fy:Int} (h:Rd R w i dp fp fy) (hi:i < R.n) :
  Calls Tryz.prog 359 #[R.ptr] w fun e w'=>e = .returned (tv (hd R.q (R.T.drop i))) ∧ Rd R w' (i + 1) dp fp fy ∧ Off [R.b] w w':=by
 have hbl:=h.bl
 have h1:=h.later (bal (Below.refl _ _) (.cells (tcs tk0) 161))
 have ha:=zao R h1
 have hh:=zac w (.cells (tcs tk0) 161)
 generalize hd R.q (R.T.drop i) = x at *
 simp only [tk0] at *
 go_enter Tryz.func359,Tryz.ntmps359
 go_wp2_with fail
 refine ha.mono ?_
 rintro e w1 ⟨rfl,hb⟩
 have hr:=zab hb hh
 have B:=Below.chain (bal (Below.refl _ _) _) hb
 have hs1:=B.size
 have hR1:=h1.later hb
 have hr2:=zat hr (.cells (tcs x) 161)
 have ht2:=zac w1 (.cells (tcs x) 161)
 have hR2:=hR1.later (bal (Below.refl _ _) (.cells (tcs x) 161))
 have B2:=bal B (.cells (tcs x) 161)
 have c1:=hR2.c1
 have f1:=hR2.fz 1
 have hle:(i:Int) + 1 ≤ 1000001:=by have:=hR1.nb;omega
 clear ha hh h1 hr hb
 go_upto_region 2 with fail
 generalize w1.alloc (.cells (tcs x) 161) = w2 at *
 go_upto_region 3 with fail
 have hS:=zbe hR2.h 1 (.int .i64 ((i:Int) + 1))
 have hO:=zbr w2 R.b 1 (.int .i64 ((i:Int) + 1))
 generalize w2.setCell ⟨R.b,1,none⟩ (.int .i64 ((i:Int) + 1)) = w3 at *
 have hR3:=hR2.put (j:=i + 1) hO (by omega) hS
 have hr3:=hO.heap hr2 (by simp;omega)
 have ht3:=hO.heap ht2 (by simp;omega)
 have O3:=(Off.of B2 [R.b]).then hO
 clear hS hO c1 f1 hR2 hr2 ht2 hR1
 go_wp2_with (first | (refine zaj rfl 161 _ rfl w1.heap.size (tcs x) 161 rfl ht3 _ Tryz.underlying161 rfl 6 zbn rfl ?_) | (refine zad rfl 161 _ _ rfl w.heap.size (tcs x) rfl rfl _ 161 hr3 6 zbn rfl ⟨rfl,rfl⟩ ?_;intro W hW hO hz))
 exact bodyPost_ret (zak Tryz.results359 _ _ w.heap.size 161 (tcs x) _ rfl hW Tryz.underlying161 rfl 6 zbn rfl) rfl ⟨rfl,hR3.off hO (by simp;omega),O3.trans hO (by simp)⟩
theorem zih {R:Rc} {w:World} {i:Nat} {dp fp fy:Int} (h:Rd R w i dp fp fy) (hk:(hd R.q (R.T.drop i)).k ≠ 0):i < R.n:=by
 by_cases hi:i < R.n
 ·
  exact hi
 rw [hd_end (by rw [h.ts.1];omega)] at hk
 exact absurd rfl hk
theorem sg_k {t:Tk} {s:Str} (h:sg t s = true):t.k = 5:=by
 unfold sg at h
 rw [Bool.and_eq_true] at h
 exact eq_of_beq h.1
theorem zgp {R:Rc} {w:World} {i:Nat} {dp fp fy:Int} {s:Str} (h:Rd R w i dp fp fy) (hk:sg (hd R.q (R.T.drop i)) s = true):i < R.n:=zih h (by rw [sg_k hk];decide)
theorem zba (R:Rc) {w:World} {i:Nat} {dp fp fy:Int} (why:Int) (h:Rd R w i dp fp fy) :
  Calls Tryz.prog 204 #[R.ptr,.int .i64 why] w fun e w'=>e = .returned (.bool false) ∧ Rd R w' i dp (hd R.q (R.T.drop i)).p why ∧ Off [R.b] w w':=by
 have ha:=zdb R h
 generalize (hd R.q (R.T.drop i)).p = x at *
 go_enter Tryz.func204,Tryz.ntmps204
 go_wp2_with fail
 refine ha.mono ?_
 rintro e w1 ⟨rfl,hb⟩
 have hR1:=h.later hb
 have c4:=hR1.c4
 have f4:=hR1.fz 4
 have c5:=hR1.c5
 have f5:=hR1.fz 5
 have O1:=Off.of hb [R.b]
 have s1:=zbe hR1.h 4 (.int .i64 x)
 have o1:=zbr w1 R.b 4 (.int .i64 x)
 have s2:=zbe s1 5 (.int .i64 why)
 have o2:=zbr (w1.setCell ⟨R.b,4,none⟩ (.int .i64 x)) R.b 5 (.int .i64 why)
 have o3:=o1.then o2
 have hR3:=hR1.put (j:=i) o3 hR1.ib s2
 have O3:=O1.then o3
 clear s1 o1 s2 o2 o3 ha O1
 go_wp2_with fail
 go_ret
 exact ⟨rfl,hR3,O3⟩
theorem zaz (R:Rc) {w:World} {i:Nat} {dp fp fy:Int} (s:Str) (h:Rd R w i dp fp fy) (hs:sg (hd R.q (R.T.drop i)) s = true) :
  Calls Tryz.prog 412 #[R.ptr,tx s] w fun e w'=>e = .returned (.bool true) ∧ Rd R w' (i + 1) dp fp fy ∧ Off [R.b] w w':=by
 have hi:=zgp h hs
 have ha:=zao R h
 have hg:=fun W=>zbb (hd R.q (R.T.drop i)) s W
 rw [hs] at hg
 have ht:=fun W (hW:Rd R W i dp fp fy)=>zbo R hW hi
 clear hs hi
 generalize hd R.q (R.T.drop i) = x at *
 go_enter Tryz.func412,Tryz.ntmps412
 go_wp2_with fail
 refine ha.mono ?_
 rintro e w1 ⟨rfl,hb⟩
 have hR1:=h.later hb
 have O1:=Off.of hb [R.b]
 go_wp2_with fail
 refine (hg _).mono ?_
 rintro e w2 ⟨rfl,hb2⟩
 have hR2:=hR1.later hb2
 have O2:=O1.on hb2
 go_wp2_with fail
 refine (ht _ hR2).mono ?_
 rintro e w3 ⟨rfl,hR3,o3⟩
 have O3:=O2.then o3
 go_wp2_with fail
 go_ret
 exact ⟨rfl,hR3,O3⟩
theorem zbp (R:Rc) {w:World} {i:Nat} {dp fp fy:Int} (s:Str) (h:Rd R w i dp fp fy) (hs:sg (hd R.q (R.T.drop i)) s = false) :
  Calls Tryz.prog 412 #[R.ptr,tx s] w fun e w'=>e = .returned (.bool false) ∧ Rd R w' i dp (hd R.q (R.T.drop i)).p 71 ∧ Off [R.b] w w':=by
 have ha:=zao R h
 have hg:=fun W=>zbb (hd R.q (R.T.drop i)) s W
 rw [hs] at hg
 have ht:=fun W (hW:Rd R W i dp fp fy)=>zba R 71 hW
 clear hs
 generalize hd R.q (R.T.drop i) = x at *
 go_enter Tryz.func412,Tryz.ntmps412
 go_wp2_with fail
 refine ha.mono ?_
 rintro e w1 ⟨rfl,hb⟩
 have hR1:=h.later hb
 have O1:=Off.of hb [R.b]
 go_wp2_with fail
 refine (hg _).mono ?_
 rintro e w2 ⟨rfl,hb2⟩
 have hR2:=hR1.later hb2
 have O2:=O1.on hb2
 go_wp2_with fail
 refine (ht _ hR2).mono ?_
 rintro e w3 ⟨rfl,hR3,o3⟩
 have O3:=O2.then o3
 go_wp2_with fail
 go_ret
 exact ⟨rfl,hR3,O3⟩
theorem zcq (R:Rc) {w:World} {i:Nat} {dp fp fy:Int} (k:Int) (h:Rd R w i dp fp fy) (hk:(hd R.q (R.T.drop i)).k = k) (h0:k ≠ 0) :
  Calls Tryz.prog 417 #[R.ptr,.int .i64 k] w fun e w'=>e = .returned (.tuple #[tv (hd R.q (R.T.drop i)),.bool true]) ∧ Rd R w' (i + 1) dp fp fy ∧ Off [R.b] w w':=by
 have hi:=zih h (by rw [hk];exact h0)
 have hbl:=h.bl
 have h1:=h.later (bal (Below.refl _ _) (.cells (tcs tk0) 161))
 have ha:=zao R h1
 have hh:=zac w (.cells (tcs tk0) 161)
 have ht:=fun W (hW:Rd R W i dp fp fy)=>zbo R hW hi
 have hf:=fld0 (hd R.q (R.T.drop i))
 rw [hk] at hf
 clear hk h0 hi
 generalize hd R.q (R.T.drop i) = x at *
 simp only [tk0] at *
 go_enter Tryz.func417,Tryz.ntmps417
 go_wp2_with fail
 refine ha.mono ?_
 rintro e w1 ⟨rfl,hb⟩
 have hr1:=zab hb hh
 have B:=Below.chain (bal (Below.refl _ _) _) hb
 have hs1:=B.size
 have hR1:=h1.later hb
 clear ha hh h1 hb
 go_wp2_with fail
 refine (ht _ hR1).mono ?_
 rintro e w2 ⟨rfl,hR2,o2⟩
 have hr2:=o2.heap hr1 (by simp;omega)
 have O2:=(Off.of B [R.b]).then o2
 clear ht hR1 hr1
 go_wp2_with (refine zad rfl 161 _ _ rfl w.heap.size (tcs x) rfl rfl _ 161 hr2 6 zbn rfl ⟨rfl,rfl⟩ ?_;intro W hW hO hz)
 exact bodyPost_ret (zai Tryz.results417 _ _ w.heap.size 161 (tcs x) _ rfl hW Tryz.underlying161 rfl 6 zbn rfl) rfl ⟨rfl,hR2.off hO (by simp;omega),O2.trans hO (by simp)⟩
theorem zcv (R:Rc) {w:World} {i:Nat} {dp fp fy:Int} (k:Int) (h:Rd R w i dp fp fy) (hk:(hd R.q (R.T.drop i)).k ≠ k) :
  Calls Tryz.prog 417 #[R.ptr,.int .i64 k] w fun e w'=>e = .returned (.tuple #[tv tk0,.bool false]) ∧ Rd R w' i dp (hd R.q (R.T.drop i)).p 71 ∧ Off [R.b] w w':=by
 have hbl:=h.bl
 have h1:=h.later (bal (Below.refl _ _) (.cells (tcs tk0) 161))
 have ha:=zao R h1
 have hh:=zac w (.cells (tcs tk0) 161)
 have ht:=fun W (hW:Rd R W i dp fp fy)=>zba R 71 hW
 have hf:=fld0 (hd R.q (R.T.drop i))
 have hk':((hd R.q (R.T.drop i)).k != k) = true:=by rw [bne_iff_ne];exact hk
 clear hk
 generalize hd R.q (R.T.drop i) = x at *
 simp only [tk0] at *
 go_enter Tryz.func417,Tryz.ntmps417
 go_wp2_with fail
 refine ha.mono ?_
 rintro e w1 ⟨rfl,hb⟩
 have hr1:=zab hb hh
 have B:=Below.chain (bal (Below.refl _ _) _) hb
 have hs1:=B.size
 have hR1:=h1.later hb
 clear ha hh h1 hb
 go_wp2_with fail
 refine (ht _ hR1).mono ?_
 rintro e w2 ⟨rfl,hR2,o2⟩
 have hr2:=o2.heap hr1 (by simp;omega)
 have O2:=(Off.of B [R.b]).then o2
 clear ht hR1 hr1
 go_wp2_with (refine zad rfl 161 _ _ rfl w.heap.size (tcs tk0) rfl rfl _ 161 hr2 6 zbn rfl ⟨rfl,rfl⟩ ?_;intro W hW hO hz)
 exact bodyPost_ret (zai Tryz.results417 _ _ w.heap.size 161 (tcs tk0) _ rfl hW Tryz.underlying161 rfl 6 zbn rfl) rfl ⟨rfl,hR2.off hO (by simp;omega),O2.trans hO (by simp)⟩
abbrev ndA (x k p:Int) (o:Bool) (v:Int) (s:Str) (vm:Value) (r:Int) (b1 b2 b3 b4:Bool) (vn vk:Value):Array Value:=#[.int .i64 x,.int .i64 k,.int .i64 p,.bool o,.int .i64 v,tx s,vm,.int .i64 r,.bool b1,.bool b2,.bool b3,.bool b4,vn,vk]
abbrev nl:Value:=.slice none 0 0
theorem zcf (p k:Int) (w:World):Calls Tryz.prog 358 #[.agg #[.int .i64 p],.int .i64 k] w fun e w'=>e = .returned (.agg (ndA p k 0 false 0 [] nl 0 false false false false nl nl)) ∧ Below w.heap.size w w':=by
 go_enter Tryz.func358,Tryz.ntmps358
 go_wp2_with fail
 exact bodyPost_ret (zak Tryz.results358 _ _ (w.heap.size + 1) 356 (ndA p k 0 false 0 [] nl 0 false false false false nl nl) _ rfl (by have:=zac (w.alloc (.cells #[.int .i64 p] 165)) (.cells (ndA p k 0 false 0 [] nl 0 false false false false nl nl) 356);rw [zbd] at this;exact this) Tryz.underlying356 rfl 14 zcd rfl) rfl ⟨rfl,bal (bal (Below.refl _ _) _) _⟩
theorem znn (x k p:Int) (o:Bool) (v:Int) (s:Str) (m1:Option Addr) (l1 c1:Nat) (r:Int) (b1 b2 b3 b4:Bool) (m2:Option Addr) (l2 c2:Nat) (m3:Option Addr) (l3 c3:Nat) (w:World):Calls Tryz.prog 361 #[.agg (ndA x k p o v s (.slice m1 l1 c1) r b1 b2 b3 b4 (.slice m2 l2 c2) (.slice m3 l3 c3))] w fun e w'=>e = .returned (.agg (exA k x o v s (.slice m1 l1 c1) r b1 b2 b3 b4 (.slice m2 l2 c2) (.slice m3 l3 c3))) ∧ Below w.heap.size w w':=by
 go_enter Tryz.func361,Tryz.ntmps361
 go_wp2_with fail
 exact bodyPost_ret (zak Tryz.results361 _ _ (w.heap.size + 1) 28 (exA k x o v s (.slice m1 l1 c1) r b1 b2 b3 b4 (.slice m2 l2 c2) (.slice m3 l3 c3)) _ rfl (by have:=zac (w.alloc (.cells (ndA x k x o v s (.slice m1 l1 c1) r b1 b2 b3 b4 (.slice m2 l2 c2) (.slice m3 l3 c3)) 356)) (.cells (exA k x o v s (.slice m1 l1 c1) r b1 b2 b3 b4 (.slice m2 l2 c2) (.slice m3 l3 c3)) 28);rw [zbd] at this;exact this) Tryz.underlying28 rfl 13 zae rfl) rfl ⟨rfl,bal (bal (Below.refl _ _) _) _⟩
theorem zgc (s:Str) (w:World):Calls Tryz.prog 132 #[tx s] w fun e w'=>e = .returned (.bool (isAggB s)) ∧ w = w':=by
 by_cases h0:s = [115,117,109]
 ·
  subst h0
  go_enter Tryz.func132,Tryz.ntmps132
  go_wp2_with fail
  go_ret
  exact ⟨rfl,rfl⟩
 have b0:(s == [115,117,109]) = false:=by rw [beq_eq_false_iff_ne];exact h0
 by_cases h1:s = [109,105,110]
 ·
  subst h1
  go_enter Tryz.func132,Tryz.ntmps132
  go_wp2_with fail
  go_ret
  exact ⟨rfl,rfl⟩
 have b1:(s == [109,105,110]) = false:=by rw [beq_eq_false_iff_ne];exact h1
 by_cases h2:s = [109,97,120]
 ·
  subst h2
  go_enter Tryz.func132,Tryz.ntmps132
  go_wp2_with fail
  go_ret
  exact ⟨rfl,rfl⟩
 have b2:(s == [109,97,120]) = false:=by rw [beq_eq_false_iff_ne];exact h2
 by_cases h3:s = [99,111,117,110,116]
 ·
  subst h3
  go_enter Tryz.func132,Tryz.ntmps132
  go_wp2_with fail
  go_ret
  exact ⟨rfl,rfl⟩
 have b3:(s == [99,111,117,110,116]) = false:=by rw [beq_eq_false_iff_ne];exact h3
 by_cases h4:s = [97,118,103]
 ·
  subst h4
  go_enter Tryz.func132,Tryz.ntmps132
  go_wp2_with fail
  go_ret
  exact ⟨rfl,rfl⟩
 have b4:(s == [97,118,103]) = false:=by rw [beq_eq_false_iff_ne];exact h4
 rw [show isAggB s = false by unfold isAggB;simp only [b0,b1,b2,b3,b4];rfl]
 clear h0 h1 h2 h3 h4
 go_enter Tryz.func132,Tryz.ntmps132
 go_wp2_with fail
 go_ret
 exact ⟨rfl,rfl⟩
theorem lv_any (s:Str) (w:World):Calls Tryz.prog 134 #[tx s] w fun e w'=>e = .returned (.int .i64 (lv s)) ∧ w = w':=by
 by_cases h0:s = [62]
 ·
  subst h0
  go_enter Tryz.func134,Tryz.ntmps134
  go_wp2_with fail
  go_ret
  exact ⟨rfl,rfl⟩
 have b0:(s == [62]) = false:=by rw [beq_eq_false_iff_ne];exact h0
 by_cases h1:s = [60]
 ·
  subst h1
  go_enter Tryz.func134,Tryz.ntmps134
  go_wp2_with fail
  go_ret
  exact ⟨rfl,rfl⟩
 have b1:(s == [60]) = false:=by rw [beq_eq_false_iff_ne];exact h1
 by_cases h2:s = [62,61]
 ·
  subst h2
  go_enter Tryz.func134,Tryz.ntmps134
  go_wp2_with fail
  go_ret
  exact ⟨rfl,rfl⟩
 have b2:(s == [62,61]) = false:=by rw [beq_eq_false_iff_ne];exact h2
 by_cases h3:s = [60,61]
 ·
  subst h3
  go_enter Tryz.func134,Tryz.ntmps134
  go_wp2_with fail
  go_ret
  exact ⟨rfl,rfl⟩
 have b3:(s == [60,61]) = false:=by rw [beq_eq_false_iff_ne];exact h3
 by_cases h4:s = [61,61]
 ·
  subst h4
  go_enter Tryz.func134,Tryz.ntmps134
  go_wp2_with fail
  go_ret
  exact ⟨rfl,rfl⟩
 have b4:(s == [61,61]) = false:=by rw [beq_eq_false_iff_ne];exact h4
 by_cases h5:s = [33,61]
 ·
  subst h5
  go_enter Tryz.func134,Tryz.ntmps134
  go_wp2_with fail
  go_ret
  exact ⟨rfl,rfl⟩
 have b5:(s == [33,61]) = false:=by rw [beq_eq_false_iff_ne];exact h5
 by_cases h6:s = [43]
 ·
  subst h6
  go_enter Tryz.func134,Tryz.ntmps134
  go_wp2_with fail
  go_ret
  exact ⟨rfl,rfl⟩
 have b6:(s == [43]) = false:=by rw [beq_eq_false_iff_ne];exact h6
 by_cases h7:s = [45]
 ·
  subst h7
  go_enter Tryz.func134,Tryz.ntmps134
  go_wp2_with fail
  go_ret
  exact ⟨rfl,rfl⟩
 have b7:(s == [45]) = false:=by rw [beq_eq_false_iff_ne];exact h7
 by_cases h8:s = [42]
 ·
  subst h8
  go_enter Tryz.func134,Tryz.ntmps134
  go_wp2_with fail
  go_ret
  exact ⟨rfl,rfl⟩
 have b8:(s == [42]) = false:=by rw [beq_eq_false_iff_ne];exact h8
 by_cases h9:s = [47]
 ·
  subst h9
  go_enter Tryz.func134,Tryz.ntmps134
  go_wp2_with fail
  go_ret
  exact ⟨rfl,rfl⟩
 have b9:(s == [47]) = false:=by rw [beq_eq_false_iff_ne];exact h9
 rw [show lv s = 0 by unfold lv;simp only [b0,b1,b2,b3,b4,b5,b6,b7,b8,b9];rfl]
 clear h0 h1 h2 h3 h4 h5 h6 h7 h8 h9
 go_enter Tryz.func134,Tryz.ntmps134
 go_wp2_with fail
 go_ret
 exact ⟨rfl,rfl⟩
theorem zga (s:Str) (w:World):Calls Tryz.prog 208 #[tx s] w fun e w'=>e = .returned (.bool (isModB s)) ∧ w = w':=by
 unfold isModB wOn wIgn
 generalize h1:(s == [111,110]) = a1
 generalize h2:(s == [105,103,110,111,114,105,110,103]) = a2
 cases a1 <;> cases a2 <;> (
  go_enter Tryz.func208,Tryz.ntmps208
  go_wp2_with fail
  go_ret
  exact ⟨rfl,rfl⟩)
theorem isGrp_any (s:Str) (w:World):Calls Tryz.prog 409 #[tx s] w fun e w'=>e = .returned (.bool (isGrpB s)) ∧ w = w':=by
 unfold isGrpB wBy wWo
 generalize h1:(s == [98,121]) = a1
 generalize h2:(s == [119,105,116,104,111,117,116]) = a2
 cases a1 <;> cases a2 <;> (
  go_enter Tryz.func409,Tryz.ntmps409
  go_wp2_with fail
  go_ret
  exact ⟨rfl,rfl⟩)
def msg (k:Int):Str:=if k = 1 then [61] else if k = 2 then [33,61] else if k = 3 then [94,61] else if k = 4 then [42,61] else []
theorem zid (k:Int) (w:World):Calls Tryz.prog 218 #[.int .i64 k] w fun e w'=>e = .returned (tx (msg k)) ∧ w = w':=by
 by_cases h1:k = 1
 ·
  subst h1
  go_enter Tryz.func218,Tryz.ntmps218
  go_wp2_with fail
  go_ret
  exact ⟨rfl,rfl⟩
 by_cases h2:k = 2
 ·
  subst h2
  go_enter Tryz.func218,Tryz.ntmps218
  go_wp2_with fail
  go_ret
  exact ⟨rfl,rfl⟩
 by_cases h3:k = 3
 ·
  subst h3
  go_enter Tryz.func218,Tryz.ntmps218
  go_wp2_with fail
  go_ret
  exact ⟨rfl,rfl⟩
 by_cases h4:k = 4
 ·
  subst h4
  go_enter Tryz.func218,Tryz.ntmps218
  go_wp2_with fail
  go_ret
  exact ⟨rfl,rfl⟩
 have e:msg k = []:=by unfold msg;rw [if_neg h1,if_neg h2,if_neg h3,if_neg h4]
 rw [e]
 have b1:(k == 1) = false:=beq_eq_false_iff_ne.2 h1
 have b2:(k == 2) = false:=beq_eq_false_iff_ne.2 h2
 have b3:(k == 3) = false:=beq_eq_false_iff_ne.2 h3
 have b4:(k == 4) = false:=beq_eq_false_iff_ne.2 h4
 clear e h1 h2 h3 h4
 go_enter Tryz.func218,Tryz.ntmps218
 go_wp2_with fail
 go_ret
 exact ⟨rfl,rfl⟩
theorem zij (W:World):(Instr.index 411 (.agg #[.int .i64 1,.int .i64 2,.int .i64 3,.int .i64 4]) (.int .i64 0)).run Tryz.prog W = .ok (.int .i64 1) W ∧ (Instr.index 411 (.agg #[.int .i64 1,.int .i64 2,.int .i64 3,.int .i64 4]) (.int .i64 1)).run Tryz.prog W = .ok (.int .i64 2) W ∧ (Instr.index 411 (.agg #[.int .i64 1,.int .i64 2,.int .i64 3,.int .i64 4]) (.int .i64 2)).run Tryz.prog W = .ok (.int .i64 3) W ∧ (Instr.index 411 (.agg #[.int .i64 1,.int .i64 2,.int .i64 3,.int .i64 4]) (.int .i64 3)).run Tryz.prog W = .ok (.int .i64 4) W:=⟨by kernel_rfl,by kernel_rfl,by kernel_rfl,by kernel_rfl⟩
def Upk (s:Str) (k:Nat):Prop:=∀ j,j < k → s ≠ msg ((j:Int) + 1)
theorem mkd_any (s:Str) (w:World):Calls Tryz.prog 432 #[tx s] w fun e w'=>e = .returned (.int .i64 (mkd s)) ∧ w = w':=by
 go_enter Tryz.func432,Tryz.ntmps432
 go_wp2_with fail
 go_loop [6] (fun i=>∃ k:Nat,k ≤ 4 ∧ i = .int .i64 k ∧ Hid (Upk s k)) (fun i=>4 - (intOf i).toNat)
 case atStart=>exact ⟨0,by omega,rfl,fun j h=>by omega⟩
 case round=>
  obtain ⟨k,hk,rfl,hp⟩:=hrel
  obtain e0 | e1 | e2 | e3 | e4:k = 0 ∨ k = 1 ∨ k = 2 ∨ k = 3 ∨ k = 4:=by omega
  ·
   subst e0
   have q:=fun W=>(zij W).1
   have m:=fun W=>zid 1 W
   rw [show msg 1 = [61] from rfl] at m
   by_cases hs:s = [61]
   ·
    have t1:([61] == s) = true:=by rw [hs];rfl
    have HV:Hid (mkd s = 1):=by show _ = _;rw [hs];rfl
    clear hs hp
    go_wp2_with fail
    refine (m _).mono ?_
    rintro e w1 ⟨rfl,rfl⟩
    go_wp2_with fail
    go_ret
    exact ⟨by rw [HV.out];rfl,rfl⟩
   have t1:([61] == s) = false:=by rw [beq_eq_false_iff_ne];exact fun e=>hs e.symm
   have HN:Hid (Upk s 1):=fun j hj=>by
    by_cases e:j = 0
    ·
     subst e;exact hs
    exact hp.out j (by omega)
   clear hs hp
   go_wp2_with fail
   refine (m _).mono ?_
   rintro e w1 ⟨rfl,rfl⟩
   go_wp2_with fail
   go_round
   case rel=>exact ⟨1,by omega,rfl,HN⟩
   case measure=>simp [intOf]
  ·
   subst e1
   have q:=fun W=>(zij W).2.1
   have m:=fun W=>zid 2 W
   rw [show msg 2 = [33,61] from rfl] at m
   by_cases hs:s = [33,61]
   ·
    have t1:([33,61] == s) = true:=by rw [hs];rfl
    have HV:Hid (mkd s = 2):=by show _ = _;rw [hs];rfl
    clear hs hp
    go_wp2_with fail
    refine (m _).mono ?_
    rintro e w1 ⟨rfl,rfl⟩
    go_wp2_with fail
    go_ret
    exact ⟨by rw [HV.out];rfl,rfl⟩
   have t1:([33,61] == s) = false:=by rw [beq_eq_false_iff_ne];exact fun e=>hs e.symm
   have HN:Hid (Upk s 2):=fun j hj=>by
    by_cases e:j = 1
    ·
     subst e;exact hs
    exact hp.out j (by omega)
   clear hs hp
   go_wp2_with fail
   refine (m _).mono ?_
   rintro e w1 ⟨rfl,rfl⟩
   go_wp2_with fail
   go_round
   case rel=>exact ⟨2,by omega,rfl,HN⟩
   case measure=>simp [intOf]
  ·
   subst e2
   have q:=fun W=>(zij W).2.2.1
   have m:=fun W=>zid 3 W
   rw [show msg 3 = [94,61] from rfl] at m
   by_cases hs:s = [94,61]
   ·
    have t1:([94,61] == s) = true:=by rw [hs];rfl
    have HV:Hid (mkd s = 3):=by show _ = _;rw [hs];rfl
    clear hs hp
    go_wp2_with fail
    refine (m _).mono ?_
    rintro e w1 ⟨rfl,rfl⟩
    go_wp2_with fail
    go_ret
    exact ⟨by rw [HV.out];rfl,rfl⟩
   have t1:([94,61] == s) = false:=by rw [beq_eq_false_iff_ne];exact fun e=>hs e.symm
   have HN:Hid (Upk s 3):=fun j hj=>by
    by_cases e:j = 2
    ·
     subst e;exact hs
    exact hp.out j (by omega)
   clear hs hp
   go_wp2_with fail
   refine (m _).mono ?_
   rintro e w1 ⟨rfl,rfl⟩
   go_wp2_with fail
   go_round
   case rel=>exact ⟨3,by omega,rfl,HN⟩
   case measure=>simp [intOf]
  ·
   subst e3
   have q:=fun W=>(zij W).2.2.2
   have m:=fun W=>zid 4 W
   rw [show msg 4 = [42,61] from rfl] at m
   by_cases hs:s = [42,61]
   ·
    have t1:([42,61] == s) = true:=by rw [hs];rfl
    have HV:Hid (mkd s = 4):=by show _ = _;rw [hs];rfl
    clear hs hp
    go_wp2_with fail
    refine (m _).mono ?_
    rintro e w1 ⟨rfl,rfl⟩
    go_wp2_with fail
    go_ret
    exact ⟨by rw [HV.out];rfl,rfl⟩
   have t1:([42,61] == s) = false:=by rw [beq_eq_false_iff_ne];exact fun e=>hs e.symm
   have HN:Hid (Upk s 4):=fun j hj=>by
    by_cases e:j = 3
    ·
     subst e;exact hs
    exact hp.out j (by omega)
   clear hs hp
   go_wp2_with fail
   refine (m _).mono ?_
   rintro e w1 ⟨rfl,rfl⟩
   go_wp2_with fail
   go_round
   case rel=>exact ⟨4,by omega,rfl,HN⟩
   case measure=>simp [intOf]
  subst e4
  have HV:Hid (mkd s = 0):=by
   show _ = _
   unfold mkd
   have p0:s ≠ [61]:=hp.out 0 (by omega)
   have p1:s ≠ [33,61]:=hp.out 1 (by omega)
   have p2:s ≠ [94,61]:=hp.out 2 (by omega)
   have p3:s ≠ [42,61]:=hp.out 3 (by omega)
   rw [if_neg p0,if_neg p1,if_neg p2,if_neg p3]
  clear hp
  go_wp2_with fail
  go_ret
  exact ⟨by rw [HV.out];rfl,rfl⟩
theorem zjj:∀ (l:List Str) (x:Str),once (l ++ [x]) = (once l && !l.contains x)
 | [],x=>by simp [once]
 | y :: l,x=>by
  have e:(y == x) = (x == y):=Bool.beq_comm
  simp only [List.cons_append,once,zjj l x,List.contains_append,List.contains_cons,List.contains_nil,Bool.or_false,Bool.not_or,e]
  cases l.contains y <;> cases (x == y) <;> cases once l <;> cases l.contains x <;> rfl
theorem zjk:∀ (l m:List Str),once l = false → once (l ++ m) = false
 | [],_,h=>by cases h
 | y :: l,m,h=>by
  simp only [once,List.cons_append,List.contains_append] at h ⊢
  cases hc:l.contains y with
  | true=>simp
  | false=>
   rw [hc] at h
   have:=zjk l m (by simpa using h)
   rw [this]
   simp
theorem Ss.head {w:World} {ao:Option Addr} {n:Nat} {l:List Str} (h:Ss w ao n l) (m:Nat) (hm:m ≤ n):Ss w ao m (l.take m):=by
 obtain ⟨h1,h4⟩:=h
 refine ⟨by rw [List.length_take,h1];omega,fun hp=>?_⟩
 obtain ⟨b,off,e,hc⟩:=h4 (by omega)
 refine ⟨b,off,e,fun j hj=>?_⟩
 rw [hc j (by omega)]
 congr 2
 simp [List.getD,List.getElem?_take_of_lt hj]
theorem znl (ao:Option Addr) (n c:Nat) (l:List Str) (w:World) (hn:n ≤ 9223372036854775807) (hc:n ≤ c) (h:Ss w ao n l) :
  Calls Tryz.prog 209 #[.slice ao n c] w fun e w'=>e = .returned (.bool (fewN l)) ∧ w = w':=by
 have hl:=h.1
 by_cases h8:n ≤ 8
 ·
  have h8':¬ (8:Int) < n:=by omega
  have HF:Hid (fewN l = once l):=by show _ = _;unfold fewN;rw [hl,decide_eq_true h8];rfl
  have hin:=fun (m:Nat) (hm:m ≤ n) x W (hW:w = W)=>in_any ao m c (l.take m) x W (by omega) (by rw [← hW];exact h.head m hm)
  have HI:Aside _:=hin
  clear hin h8
  go_enter Tryz.func209,Tryz.ntmps209
  go_wp2_with fail
  go_loopw [10] (fun i wr=>∃ k:Nat,k ≤ n ∧ i = .int .i64 k ∧ w = wr ∧ Hid (once (l.take k) = true)) (fun i _=>n - (intOf i).toNat)
  case atStart=>exact ⟨0,by omega,rfl,rfl,rfl⟩
  case round=>
   obtain ⟨k,hk,rfl,rfl,HO⟩:=hrel
   by_cases hlt:k < n
   ·
    obtain ⟨b,off,hb,hcell⟩:=h.2 (by omega)
    have c0:=hcell k hlt
    have hlk:k < l.length:=by omega
    have HS:Hid (once (l.take (k + 1)) = (once (l.take k) && !(l.take k).contains (l.getD k []))):=by
     show _ = _
     rw [List.take_succ_eq_append_getElem hlk,zjj]
     simp [List.getD,List.getElem?_eq_getElem hlk]
    have hi2:=HI.out k (by omega) (l.getD k []) w rfl
    have hlt':(k:Int) < n:=by omega
    have hkc:(k:Int) ≤ c:=by omega
    subst hb
    generalize l.getD k [] = x at *
    cases hx:(l.take k).contains x with
    | true=>
     have HV:Hid (fewN l = false):=by
      show _ = _
      rw [HF.out]
      have e:=HS.out
      rw [HO.out,hx] at e
      have:=zjk (l.take (k + 1)) (l.drop (k + 1)) (by rw [e];rfl)
      rwa [List.take_append_drop] at this
     rw [hx] at hi2
     clear HS HO hx HF h hl hcell hlk
     go_wp2_with fail
     refine hi2.mono ?_
     rintro e w1 ⟨rfl,rfl⟩
     go_wp2_with fail
     go_ret
     exact ⟨by rw [HV.out];rfl,rfl⟩
    | false=>
     have HN:Hid (once (l.take (k + 1)) = true):=by show _ = _;rw [HS.out,HO.out,hx];rfl
     rw [hx] at hi2
     clear HS HO hx HF h hl hcell hlk
     go_wp2_with fail
     refine hi2.mono ?_
     rintro e w1 ⟨rfl,rfl⟩
     go_wp2_with fail
     go_roundw
     case rel=>exact ⟨k + 1,by omega,by go_num,trivial,HN⟩
     case measure=>simp [intOf];omega
   have HV:Hid (fewN l = true):=by
    show _ = _
    rw [HF.out,← HO.out,List.take_of_length_le (by omega)]
   have hlt':¬ (k:Int) < n:=by omega
   clear HF HO h hl
   go_wp2_with fail
   go_ret
   exact ⟨by rw [HV.out];rfl,rfl⟩
 have h8':(8:Int) < n:=by omega
 have e:fewN l = false:=by unfold fewN;rw [hl,decide_eq_false h8];rfl
 rw [e]
 clear e h8 h hl
 go_enter Tryz.func209,Tryz.ntmps209
 go_wp2_with fail
 go_ret
 exact ⟨rfl,rfl⟩
end Go.Proofs.YtjlaihekocjggaaGreatDoor
