/- Texts that the others lean on. -/
import Derived.Test.YtjlaihekocjggaaGreatDoorRows
import Derived.ProofKit
import Derived.OpenShut
import Derived.LaidMore
import Derived.Lay
import Derived.SevenTiedAt
import Derived.Stop.Joined
import Derived.Lib.SmallJoins
import Derived.Lib.LaidTab
import Derived.Stop.LaidErr
import Derived.ChangeMaps5
import Derived.Deep.SlicePairs
import Derived.SliceStrings
import Derived.HandedShaped
import Derived.Shelf.Vars
import Derived.LaidHandle
import Derived.Test.YtjlaihekocjggaaGreatDoorKMB
import Derived.Test.YtjlaihekocjggaaGreatDoorKMT
namespace Go.Proofs.YtjlaihekocjggaaGreatDoor
open Go.ChangeShapes Go.WideShapes Go.ChangeAt Go.RowKit Go.Deep
theorem mx_of {W:World} (h:W.ShapedOpen Tryz.prog):Mx W:=
 cell_of_shapedOpen_int (g:=0) (t:=3) (zero:=#[.int .i64 0]) (k:=.i64) h (of_decide_eq_true (by kernel_rfl)) (by kernel_rfl) rfl (by kernel_rfl) (by kernel_rfl) Tryz.underlying3
def Ns (w:World) (ao:Option Addr) (n:Nat) (l:List UInt8):Prop:=
 l.length = n ∧ (0 < n → ∃ b off,ao = some ⟨b,off,none⟩ ∧ ∀ j,j < n → w.cell? ⟨b,off + j,none⟩ = some (.int .u8 (l.getD j 0).toNat))
theorem lift_env {H:Type} {enc:TypeId × Value → H} {a:Assume} {C:Checked} {os:Os} {f:FuncId} {fn:Func} {s:ChangeSpec} {conds:List PathCond} {apart fresh handsOn again:Bool} {X:World → Array Value → Prop} (hX:∀ w w' args,w.heap = w'.heap → X w args → X w' args)
  (own:ownKnob C.prog.godebug = none) (started:os.Started) (noInit:C.prog.inits.idxOf? f = none) (hfn:C.prog.funcs[f]? = some fn)
  (witness:∃ (w:World) (tape:Tape) (i:Input),w.os = os ∧ (w.forCall tape i).Shaped C.prog ∧ i.vars = [] ∧ Input.okWide C.prog (w.forCall tape i) .any w.heap.size f i ∧
   ((s.pre enc C.prog fn conds apart (w.forCall tape i).memory i.args ∧ X (w.forCall tape i).memory i.args) ∧ sizedMet enc C.prog fn (OpenSpec.ofChange s) apart (w.forCall tape i).memory i.args) ∧ a.holds C.prog (lone (Frame.enter C.prog f i.args .normal) [] (w.forCall tape i)))
  (contract:∀ (W:World) (base:Nat) (args:Array Value) (ds gs:List (DataW H)) (before:List MemPlace),
   (∀ (j:Nat) t v,fn.params[j]? = some t → args[j]? = some v → Value.okWide C.prog W .any base t v) →
   DataW.Whole enc C.prog fn.params.toList s.vars apart W args.toList ds gs before → W.ShapedOpen C.prog → X W args →
   Calls C.prog f args W fun e W'=>∃ v,e = .returned v ∧ s.post enc C.prog fn apart fresh handsOn again W args v W') :
  ReturnsInHanded a C os f .any (fun w args=>(s.pre enc C.prog fn conds apart w args ∧ X w args) ∧ sizedMet enc C.prog fn (OpenSpec.ofChange s) apart w args) (s.post enc C.prog fn apart fresh handsOn again):=by
 refine returnsInHanded_of_calls own started noInit witness ?_
 intro w tape i _ hsh _ hok hpre _
 obtain ⟨_,_,_,fn',hfn',_,_,_,_,hval⟩:=hok
 have e:fn' = fn:=Option.some.inj (hfn'.symm.trans hfn)
 subst e
 obtain ⟨⟨⟨ds,gs,before,hw,hc⟩,hx⟩,hz⟩:=hpre
 have hw':=DataW.Whole.of_heap (w':=w.forCall tape i) (by rfl) hw
 refine (contract (w.forCall tape i) w.heap.size i.args ds gs before hval hw' hsh (hX _ _ _ (by rfl) hx)).mono fun e W' ⟨v,he,hp⟩=>?_
 subst he
 exact ChangeSpec.post_blind hp
/-! ### What the library's variables hold when a call begins -/
theorem gES : Tryz.prog.globalNamed "strconv.ErrSyntax" = some 5 := by kernel_rfl
theorem gER : Tryz.prog.globalNamed "strconv.ErrRange" = some 6 := by kernel_rfl
theorem tES:(Tryz.prog.globals[5]?).map (·.type) = some 106:=by kernel_rfl
theorem tER:(Tryz.prog.globals[6]?).map (·.type) = some 106:=by kernel_rfl
theorem c141:Tryz.prog.cellsOf 394 = 1:=by kernel_rfl
theorem c9:Tryz.prog.cellsOf 9 = 1:=by kernel_rfl
theorem starE : "*" ++ "errors.errorString" = "*errors.errorString" := by decide
theorem rowES (u : TypeId) (h : Tryz.prog.typeName? 3 u = some "*errors.errorString") : u = 392 :=
 typeName_ptr_named (nm := "errors.errorString") (by rw [starE]; kernel_rfl) (by kernel_rfl) (by decide) u (by rw [starE]; exact h)
theorem env_of {W:World} (hsh:W.ShapedOpen Tryz.prog) (h:laidMetH Tryz.prog Rows.exprTreesRow.laid W):Ev W:=by
 rw [MakeChecks.laidMetH_plain _ _ _ (by kernel_rfl)] at h
 have h2:=laidMet.tail (laidMet.tail h)
 have h4:=laidMet.tail (laidMet.tail h2)
 have h5:=laidMet.tail h4
 refine ⟨mx_of hsh,?_,?_,?_⟩
 ·
  obtain ⟨a0,s0,hv0,-,-,-⟩:=laid_sentinel h5 gES tES Tryz.underlying106 rowES Tryz.underlying392 Tryz.underlying394 rfl rfl Tryz.underlying9 c141 c9
  have h0:=World.var?_cell gES hv0 0
  exact ⟨_,by simpa using h0,Or.inr ⟨_,_,rfl⟩⟩
 ·
  obtain ⟨a0,s0,hv0,-,-,-⟩:=laid_sentinel h4 gER tER Tryz.underlying106 rowES Tryz.underlying392 Tryz.underlying394 rfl rfl Tryz.underlying9 c141 c9
  have h0:=World.var?_cell gER hv0 0
  exact ⟨_,by simpa using h0,Or.inr ⟨_,_,rfl⟩⟩
 exact Lib.tabIs_of_head (g:=1) (t:=303) (e:=51) (n:=20) (by kernel_rfl) (by kernel_rfl) Tryz.underlying303 Tryz.underlying51 (by kernel_rfl) (by kernel_rfl) h2
theorem etN : Tryz.prog.globalNamed "errors.errorType" = some 4 := by kernel_rfl
theorem etR : (Tryz.prog.cutTypes.find? (·.1 == "internal/reflectlite.rtype")).map (·.2) = some 376 := by kernel_rfl
theorem etOne:((List.range 437).filter fun t=>Tryz.prog.rowNamed t [101,114,114,111,114]) = [106]:=by kernel_rfl
theorem etSize:Tryz.prog.types.size = 437:=by kernel_rfl
theorem env_ty {W:World} (hsh:W.ShapedOpen Tryz.prog) (h:laidMetH Tryz.prog Rows.rulesPlacesRow.laid W):Ev W ∧ Et W:=by
 have h' : laidMet Tryz.prog Rows.exprTreesRow.laid W ∧ handlesMet Tryz.prog [("errors.errorType", Rows.laid_errors_errorType)] W := h
 refine ⟨env_of hsh (by rw [MakeChecks.laidMetH_plain _ _ _ (by kernel_rfl)];exact h'.1),?_⟩
 obtain ⟨name,u,ty,e1,e2,e3,e4,e5⟩:=h'.2 _ (List.mem_singleton.2 rfl)
 have en:name = [101,114,114,111,114]:=(Option.some.inj e1).symm
 subst en
 obtain rfl:=Option.some.inj (etR.symm.trans e2)
 have hm:ty ∈ (List.range 437).filter fun t=>Tryz.prog.rowNamed t [101,114,114,111,114]:=List.mem_filter.2 ⟨List.mem_range.2 (by rw [← etSize];exact e3),e4⟩
 rw [etOne] at hm
 obtain rfl:=List.mem_singleton.1 hm
 have hh:typeHandle Tryz.prog 106 = .pointer (some ⟨9,106,none⟩):=by kernel_rfl
 rw [hh] at e5
 have:=World.var?_cell etN e5 0
 show W.cell? ⟨4,0,none⟩ = _
 simpa using this
def wH (P:Program) (os:Os) (u:TypeId) (h:Value):World:={ World.holding P os ⟨#[],#[],[]⟩ with heap:=(World.holding P os ⟨#[],#[],[]⟩).heap.modify 4 fun o=>match o with
 | .cells _ t fr=>.cells #[.iface u (.agg #[h])] t fr
 | o=>o }
abbrev plL (l:List (String × DataW Unit)):List (String × DataW Unit):=l.filter fun x=>x.2.handleName?.isNone
def wL (P:Program) (os:Os) (u:TypeId) (h:Value) (l:List (String × DataW Unit)):World:=(wH P os u h).layVars P (plL l)
theorem wL_os (P:Program) (os:Os) (u:TypeId) (h:Value) (l:List (String × DataW Unit)):(wL P os u h l).os = os:=World.layVars_os _ _ _
theorem wL_met {P:Program} {os:Os} {u:TypeId} {h:Value} {l:List (String × DataW Unit)} (args:Array Value) (hf:(wH P os u h).layFits P (plL l) [] = true) (hi:(wH P os u h).layIfaces P (plL l) (wL P os u h l) = true)
  (hh:(l.filter fun x=>x.2.handleName?.isSome).all (handleAtB P ((wL P os u h l).forCall (fun _ _=>0) ⟨#[],args,[]⟩).memory) = true):laidMetH P l ((wL P os u h l).forCall (fun _ _=>0) ⟨#[],args,[]⟩).memory:=by
 refine laidMetH_of_parts ?_ hh
 have e1:((plL l).filter fun x=>((plL l).map (·.1)).contains x.1) = plL l:=List.filter_eq_self.2 fun x hx=>List.contains_iff_mem.2 (List.mem_map.2 ⟨x,hx,rfl⟩)
 have e2:((plL l).filter fun x=>!((plL l).map (·.1)).contains x.1) = []:=List.filter_eq_nil_iff.2 fun x hx=>by rw [List.contains_iff_mem.2 (List.mem_map.2 ⟨x,hx,rfl⟩)];simp
 have hw:laidMet P (plL l) (wL P os u h l):=laidMet_layVars (w0:=wH P os u h) ((plL l).map (·.1)) [] (by rw [e1];rfl) (by rw [e1];exact hf) (by rw [e1];exact hi) (by rw [e2];exact LaidIn.none)
 exact hw.of_heap (by simp [World.memory,World.forCall,Input.heap])
end Go.Proofs.YtjlaihekocjggaaGreatDoor
