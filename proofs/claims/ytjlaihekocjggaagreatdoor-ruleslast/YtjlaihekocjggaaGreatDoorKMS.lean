/- Texts that the others lean on. -/
import Derived.Shelf.SlGeneric
import Derived.Shelf.SortM.Plain
import Derived.Shelf.SortM.SortNone
import Derived.Ground.SlgmProg
import Derived.Shelf.Slices.CompactS
import Derived.Test.YtjlaihekocjggaaGreatDoorProg
import Derived.Lib.OwnBridge
import Derived.Test.YtjlaihekocjggaaGreatDoorKMP
import Derived.Test.YtjlaihekocjggaaGreatDoorKML
namespace Go.Proofs.YtjlaihekocjggaaGreatDoor
open Go.RowKit
def smG9 (e:Ex) (l:List Bool):Bool:=decide (e.s.length ≤ 1000000) && e.m.all (fun x=>decide (x.name.length ≤ 1000000) && decide (x.text.length ≤ 1000000)) && e.ns.all (fun x=>decide (x.length ≤ 1000000)) && decide (e.m.length ≤ 1000000) && decide (e.ns.length ≤ 1000000) && decide (e.ks.length ≤ 1000000) && decide (-9223372036854775808 ≤ e.v) && decide (e.v ≤ 9223372036854775807) && l.all fun x=>x
def smB (e:Ex):Bool:=foldE smG9 e
def smBL:List Ex → Bool
 | []=>true
 | x :: l=>smB x && smBL l
theorem zks:∀ l,smBL l = l.all smB
 | []=>by rw [smBL];rfl
 | x :: l=>by rw [smBL,zks l,List.all_cons]
theorem zfd (k p:Int) (o:Bool) (v:Int) (s:Str) (m:List Mt) (r:Int) (b1 b2 b3 b4:Bool) (ns:List Str) (ks:List Ex):smB ⟨k,p,o,v,s,m,r,b1,b2,b3,b4,ns,ks⟩ = (decide (s.length ≤ 1000000) && m.all (fun x=>decide (x.name.length ≤ 1000000) && decide (x.text.length ≤ 1000000)) && ns.all (fun x=>decide (x.length ≤ 1000000)) && decide (m.length ≤ 1000000) && decide (ns.length ≤ 1000000) && decide (ks.length ≤ 1000000) && decide (-9223372036854775808 ≤ v) && decide (v ≤ 9223372036854775807) && smBL ks):=by
 have h:smB ⟨k,p,o,v,s,m,r,b1,b2,b3,b4,ns,ks⟩ = smG9 ⟨k,p,o,v,s,m,r,b1,b2,b3,b4,ns,ks⟩ (ks.map smB):=by
  show foldE smG9 _ = _
  rw [zdo]
  rfl
 rw [h,zks]
 unfold smG9
 rw [List.all_map]
 rfl
theorem smB_ok (e:Ex):smB e = true → Sm e ∧ Vr e:=by
 refine Ex.ind (fun e=>smB e = true → Sm e ∧ Vr e) ?_ e
 intro e ih h
 obtain ⟨k,p,o,v,s,m,r,b1,b2,b3,b4,ns,ks⟩:=e
 rw [zfd,zks] at h
 simp only [Bool.and_eq_true,decide_eq_true_eq,List.all_eq_true] at h
 obtain ⟨⟨⟨⟨⟨⟨⟨⟨h1,h2⟩,h3⟩,h4⟩,h5⟩,h6⟩,h7⟩,h8⟩,h9⟩:=h
 refine ⟨(zpg _).2 ⟨?_,?_,?_,by show m.length ≤ _;omega,by show ns.length ≤ _;omega,by show ks.length ≤ _;omega,fun x hx=>(ih x hx (h9 x hx)).1⟩,(Vr_eq _).2 ⟨⟨h7,h8⟩,fun x hx=>(ih x hx (h9 x hx)).2⟩⟩
 ·
  show s.length ≤ _;omega
 ·
  intro x hx
  have:=h2 x hx
  exact ⟨by show x.name.length ≤ _;omega,by show x.text.length ≤ _;omega⟩
 intro x hx
 have:=h3 x hx
 show x.length ≤ _
 omega
end Go.Proofs.YtjlaihekocjggaaGreatDoor
