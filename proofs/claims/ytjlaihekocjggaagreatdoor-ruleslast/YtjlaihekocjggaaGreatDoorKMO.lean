/- Texts that the others lean on. -/
import Derived.Test.YtjlaihekocjggaaGreatDoorKMB
namespace Go.Proofs.YtjlaihekocjggaaGreatDoor
open Go.RowKit
theorem kid_lt {e x:Ex} (h:x ∈ e.ks):SizeOf.sizeOf x < SizeOf.sizeOf e:=by
 cases e
 have:=List.sizeOf_lt_of_mem h
 simp at *
 omega
def foldE {β:Type} (g:Ex → List β → β) (e:Ex):β:=g e (e.ks.attach.map fun x=>have:=kid_lt x.2;foldE g x.1)
theorem zdo {β:Type} (g:Ex → List β → β) (e:Ex):foldE g e = g e (e.ks.map (foldE g)):=by
 rw [foldE]
 simp
def evL {β:Type} (f:Ex → Option β):List Ex → Option (List β)
 | []=>some []
 | x :: l=>match f x,evL f l with
  | some a,some b=>some (a :: b)
  | _,_=>none
def evE {β:Type} (g:Ex → List β → β):Nat → Ex → Option β
 | 0,_=>none
 | n + 1,e=>match evL (evE g n) e.ks with
  | some l=>some (g e l)
  | none=>none
theorem evL_ok {β:Type} {f:Ex → Option β} {h:Ex → β} (hf:∀ x v,f x = some v → h x = v):∀ (l:List Ex) (r:List β),evL f l = some r → l.map h = r
 | [],r,e=>by
  have e:some [] = some r:=e
  injection e
 | x :: l,r,e=>by
  have e:(match f x,evL f l with
   | some a,some b=>some (a :: b)
   | _,_=>none) = some r:=e
  cases h1:f x with
  | none=>
   rw [h1] at e
   cases e
  | some a=>
   cases h2:evL f l with
   | none=>
    rw [h1,h2] at e
    cases e
   | some b=>
    rw [h1,h2] at e
    injection e with e
    rw [List.map_cons,hf x a h1,evL_ok hf l b h2,← e]
theorem zgh {β:Type} (g:Ex → List β → β):∀ (n:Nat) (e:Ex) (v:β),evE g n e = some v → foldE g e = v
 | 0,e,v,h=>by cases h
 | n + 1,e,v,h=>by
  rw [evE] at h
  cases h1:evL (evE g n) e.ks with
  | none=>rw [h1] at h;cases h
  | some l=>
   rw [h1] at h
   injection h with h
   rw [zdo,evL_ok (zgh g n) e.ks l h1,← h]
end Go.Proofs.YtjlaihekocjggaaGreatDoor
