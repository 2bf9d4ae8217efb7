/- Texts that the others lean on. -/
import Derived.Test.YtjlaihekocjggaaGreatDoorKQRMem
import Derived.Test.YtjlaihekocjggaaGreatDoorKMG
import Derived.Test.YtjlaihekocjggaaGreatDoorKMT
import Derived.Test.YtjlaihekocjggaaGreatDoorKTFine
import Derived.Test.YtjlaihekocjggaaGreatDoorKMS
namespace Go.Proofs.YtjlaihekocjggaaGreatDoor
open Go.RowKit
theorem ps_sm (s:Str):Sm (psX s) ∧ Vr (psX s):=smB_ok _ (Tf.ps_fine s).1
def exW (t:Str):Int × Int:=if psE t = 0 then ruE (ofE (psX t)) (psX t) else (psA t,psE t)
def rcRu (l:Str):Ru:=⟨rcM l,psX (rcX l),fWithout (parseL (rcS l)) []⟩
/-! ### Lines taken -/
def wI (x:Int):Int:=IntKind.i64.wrap x
def stG (c:Cf) (l:Str):Cf ⊕ (Int × Int):=
 match hdOf l with
 | none=>.inr (0,12)
 | some h=>if c.gs.length = 3 then .inr (0,32) else if c.gs.any (fun g=>g.name == h.1) = true then .inr (0,31) else .inl ⟨c.rl,c.gs ++ [⟨h.1,h.2,[]⟩]⟩
def stR (c:Cf) (l:Str):Cf ⊕ (Int × Int):=
 if rcOk l = true then
  match c.gs.getLast? with
  | none=>.inr (0,12)
  | some g=>if g.rs.length = 8 then .inr (0,32) else if (exW (rcX l)).2 = 0 then .inl ⟨c.rl,c.gs.dropLast ++ [⟨g.name,g.ev,g.rs ++ [rcRu l]⟩]⟩
   else .inr (wI ((l.length:Int) - (rcX l).length + (exW (rcX l)).1),(exW (rcX l)).2)
 else .inr (0,12)
def stL (c:Cf) (l:Str):Cf ⊕ (Int × Int):=
 if rlOk l = true then (if c.gs.length = 0 then (if c.rl.length = 6 then .inr (0,32) else .inl ⟨c.rl ++ [rlP l],c.gs⟩) else .inr (0,12)) else .inr (0,12)
def wrd (l:Str):Str:=(Lib.cut l [32]).1
def stC (c:Cf) (l:Str):Cf ⊕ (Int × Int):=
 if l.head?.getD 35 = 35 then .inl c
 else if wrd l = [103,114,111,117,112] then stG c l
 else if wrd l = [114,101,99,111,114,100] then stR c l
 else stL c l
def runF:Cf → Int → List Str → Cf × Int × Int
 | c,_,[]=>(c,0,0)
 | c,b,l :: ls=>match stC c l with
  | .inl c'=>runF c' (b + ((l.length:Int) + 1)) ls
  | .inr x=>(cf0,wI (b + x.1),x.2)
def pF (s:Str):Cf × Int × Int:=if 3000 < s.length then (cf0,0,11) else runF cf0 0 (sp 10 s)
end Go.Proofs.YtjlaihekocjggaaGreatDoor
