/- Texts that the others lean on. -/
import Derived.Test.YtjlaihekocjggaaGreatDoorTie
namespace Go.Proofs.YtjlaihekocjggaaGreatDoor
theorem zka {P:Program} (h:P.funcs.any Func.goes = false) (f:FuncId):P.goes f = false:=by
 unfold Program.goes
 rw [h,Bool.and_false,Bool.or_false,Bool.eq_false_iff]
 intro hc
 simp only [List.any_eq_true,Option.any_eq_true] at hc
 obtain ⟨g,_,fn,hg,hf⟩:=hc
 have:P.funcs.any Func.goes = true:=Array.any_eq_true'.2 ⟨fn,Array.mem_of_getElem? hg,hf⟩
 rw [h] at this
 cases this
theorem goes_at {P:Program} (h:P.funcs.any Func.goes = false) (s:Start) (f:String):P.goesAt s f = false:=by
 unfold Program.goesAt Program.goesFrom
 have h1:(P.funcNamed f).any P.goes = false:=by
  cases P.funcNamed f with
  | none=>rfl
  | some x=>exact zka h x
 have h2:P.inits.toList.any P.goes = false:=by
  rw [Bool.eq_false_iff]
  intro hc
  obtain ⟨g,_,hg⟩:=List.any_eq_true.1 hc
  rw [zka h] at hg
  cases hg
 rw [h1,Bool.false_or]
 cases s <;> first | rfl | exact h2
theorem goes_all:Tryz.prog.funcs.any Func.goes = false:=by kernel_rfl
end Go.Proofs.YtjlaihekocjggaaGreatDoor
